"""Nets that are changed so that what an atlas tells has to stay, or to go along."""

import random
import unittest

from atlas_case import AtlasCase
from dialweir.atlas import Atlas, bottom, reach
from dialweir.fracs import Span, before, frac, plus, times
from dialweir.moves import value
from dialweir.net import Net
from made_nets import made_net, runs_of, settings, whole_plans

S_BOX = (-3, 3)
T_BOX = (-2, 4)


def told_places(net):
    """(name, passage, store's room, store's price, wants) of each place."""
    return [(name, *net.place_told(name)) for name in net.place_names()]


def told_roads(net):
    """(name, start, end, takes, floor, rungs) of each road."""
    return [(name, *net.road_told(name)) for name in net.road_names()]


def built(hours, s_box, t_box, places, roads):
    """The net of these places and roads."""
    net = Net(hours=hours, s_box=s_box, t_box=t_box)
    for name, passage, room, price, wants in places:
        net.place(name)
        net.through(name, passage)
        net.store(name, room, price)
        for hour, want in enumerate(wants, start=1):
            net.want(name, hour, want)
    for name, start, end, takes, floor, rungs in roads:
        net.road(name, start, end, takes=takes, floor=floor, rungs=rungs)
    return net


def changed_moves(net, by_s, by_t, s_box=None, t_box=None):
    """The net with each move by s, and each by t, changed."""
    def room_of(room):
        return None if room is None else by_s(room)

    places = [(name, room_of(passage), room_of(room), by_t(price), [by_s(want) for want in wants])
              for name, passage, room, price, wants in told_places(net)]
    roads = [(name, start, end, takes, by_s(floor), tuple((room_of(room), by_t(price)) for room, price in rungs))
             for name, start, end, takes, floor, rungs in told_roads(net)]
    return built(net.hours, s_box or net.s_box, t_box or net.t_box, places, roads)


def times_move(count):
    return lambda move: (count * move[0], count * move[1])


def shifted(by):
    """The move that is worth at x + by what this one is at x."""
    return lambda move: (move[0] - by * move[1], move[1])


def same(move):
    return move


def nets(count, **shape):
    for seed in range(count):
        yield random.Random(seed), made_net(seed, **{"hours": 1 + seed % 3, "places": 4, "roads": 8,
                                                     "below": seed % 3 == 0, "endless": 0.2, **shape})


class SameCase(AtlasCase):
    def assert_goes_along(self, chance, net, other, *, at=lambda s, t: (s, t), worth=lambda s, t, told: told):
        """The stretches of the other net are those of the net, and its worths follow from the net's."""
        atlas, changed = Atlas(net), Atlas(other)
        for told, expected, first in ((atlas.reach()[0], changed.reach()[0], True),
                                      (atlas.bottom()[0], changed.bottom()[0], False)):
            if told is None:
                self.assertIsNone(expected)
                continue
            ends = [at(end, end)[0 if first else 1] for end in (told.low, told.high)]
            self.assertEqual(expected, Span(*ends))
        count = 0
        if atlas.reach()[0] is None or atlas.bottom()[0] is None:
            return count
        for s in settings(chance, atlas.reach()[0].low, atlas.reach()[0].high, 2):
            for t in settings(chance, atlas.bottom()[0].low, atlas.bottom()[0].high, 2):
                self.assertEqual(changed.worth(*at(s, t)), worth(s, t, atlas.worth(s, t)))
                count += 1
        return count

    def assert_line_goes_along(self, net, other):
        """The lines of both nets are the same."""
        atlas, changed = Atlas(net), Atlas(other)
        if atlas.reach()[0] is not None and atlas.bottom()[0] is not None:
            s, t = atlas.reach()[0].middle(), atlas.bottom()[0].middle()
            self.assertEqual(atlas.along_s(t), changed.along_s(t))
            self.assertEqual(atlas.along_t(s), changed.along_t(s))
            self.assertEqual(atlas.slopes(s, t), changed.slopes(s, t))


class SameTest(SameCase):
    def test_names_and_orders(self):
        count = 0
        for chance, net in nets(30):
            called = {name: f"x{number}" for number, name in enumerate(net.place_names()[::-1])}
            places = [(called[name], *rest) for name, *rest in told_places(net)]
            roads = [(f"a{number}", called[start], called[end], *rest)
                     for number, (_, start, end, *rest) in enumerate(told_roads(net))]
            chance.shuffle(places)
            chance.shuffle(roads)
            other = built(net.hours, net.s_box, net.t_box, places, roads)
            count += self.assert_goes_along(chance, net, other)
            self.assert_line_goes_along(net, other)
        self.assertGreater(count, 150)

    def test_beside_another_one(self):
        count = 0
        for seed, (chance, net) in enumerate(nets(30, places=3, roads=5)):
            beside = made_net(seed + 500, hours=net.hours, places=3, roads=4)
            places = told_places(net) + [(f"b{name}", *rest) for name, *rest in told_places(beside)]
            roads = told_roads(net) + [(f"b{name}", f"b{start}", f"b{end}", *rest)
                                       for name, start, end, *rest in told_roads(beside)]
            together = Atlas(built(net.hours, net.s_box, net.t_box, places, roads))
            one, other = Atlas(net), Atlas(beside)
            spans = [(one.reach()[0], other.reach()[0]), (one.bottom()[0], other.bottom()[0])]
            met = [None if None in pair else pair[0].meet(pair[1]) for pair in spans]
            self.assertEqual([together.reach()[0], together.bottom()[0]], met)
            if None not in met:
                for s in settings(chance, met[0].low, met[0].high, 2):
                    for t in settings(chance, met[1].low, met[1].high, 2):
                        self.assertEqual(together.worth(s, t), plus(one.worth(s, t), other.worth(s, t)))
                        count += 1
        self.assertGreater(count, 100)

    def test_hours_that_do_not_touch(self):
        count = 0
        for chance, net in nets(30, stores=0):
            places = told_places(net)
            roads = [(name, start, end, 0, floor, rungs) for name, start, end, _, floor, rungs in told_roads(net)]
            # The wants of each hour are those of some net of one hour.
            singles = []
            for hour in range(1, net.hours + 1):
                wants = {name: (0, 0) for name in net.place_names()}
                for _, start, end, _, floor, rungs in roads:
                    load = floor if rungs[0][0] is None or chance.random() < 0.5 else (
                        floor[0] + rungs[0][0][0], floor[1] + rungs[0][0][1])
                    for place, sign in ((start, -1), (end, 1)):
                        wants[place] = (wants[place][0] + sign * load[0], wants[place][1] + sign * load[1])
                of_hour = [(name, passage, (0, 0), (0, 0), [wants[name]]) for name, passage, *_ in places]
                singles.append((built(1, net.s_box, net.t_box, of_hour, roads), wants))
            joined = [(name, passage, (0, 0), (0, 0), [wants[name] for _, wants in singles])
                      for name, passage, *_ in places]
            whole = Atlas(built(net.hours, net.s_box, net.t_box, joined, roads))
            atlases = [Atlas(single) for single, _ in singles]
            spans = [atlas.reach()[0] for atlas in atlases]
            met = spans[0]
            for span in spans[1:]:
                met = None if met is None or span is None else met.meet(span)
            self.assertEqual(whole.reach()[0], met)
            self.assertEqual(whole.bottom()[0], atlases[0].bottom()[0])
            if met is not None and whole.bottom()[0] is not None:
                for s in settings(chance, met.low, met.high, 2):
                    total = (0, 1)
                    for atlas in atlases:
                        total = plus(total, atlas.worth(s, whole.bottom()[0].high))
                    self.assertEqual(whole.worth(s, whole.bottom()[0].high), total)
                    count += 1
        self.assertGreater(count, 40)

    def test_a_rung_parted_into_two(self):
        count = 0
        for chance, net in nets(30):
            roads = []
            for name, start, end, takes, floor, rungs in told_roads(net):
                room, price = rungs[0]
                if len(rungs) < 4:
                    half = (5, 0) if room is None else (room[0] // 2, room[1] // 2)
                    if all(half[0] + half[1] * s >= 0 for s in S_BOX):
                        rest = None if room is None else (room[0] - half[0], room[1] - half[1])
                        if rest is None or all(rest[0] + rest[1] * s >= 0 for s in S_BOX):
                            rungs = ((half, price), (rest, price), *rungs[1:])
                roads.append((name, start, end, takes, floor, rungs))
            other = built(net.hours, net.s_box, net.t_box, told_places(net), roads)
            count += self.assert_goes_along(chance, net, other)
            self.assert_line_goes_along(net, other)
        self.assertGreater(count, 150)

    def test_a_road_of_no_room_and_a_lone_place(self):
        count = 0
        for chance, net in nets(30):
            other = net.twin()
            other.place("lone")
            other.store("lone", None, (3, 1))
            other.through("lone", (0, 0) if net.hours == 1 else None)
            for number, name in enumerate(net.place_names()[:2]):
                other.road(f"no{number}", name, net.place_names()[-1], rungs=(((0, 0), (-99, 9)), ((0, 0), (0, 9))))
            count += self.assert_goes_along(chance, net, other)
            self.assert_line_goes_along(net, other)
        self.assertGreater(count, 150)

    def test_both_dials_shifted(self):
        count = 0
        for chance, net in nets(30):
            by_s, by_t = chance.randint(-20, 20), chance.randint(-20, 20)
            other = changed_moves(net, shifted(by_s), shifted(by_t), tuple(end + by_s for end in net.s_box),
                                  tuple(end + by_t for end in net.t_box))
            count += self.assert_goes_along(
                chance, net, other, at=lambda s, t: (plus(s, frac(by_s)), plus(t, frac(by_t))))
        self.assertGreater(count, 150)

    def test_loads_many_times_as_great(self):
        count = 0
        for chance, net in nets(30):
            by = chance.choice((2, 3, 100))
            count += self.assert_goes_along(chance, net, changed_moves(net, times_move(by), same),
                                            worth=lambda s, t, told: times(told, frac(by)))
        self.assertGreater(count, 150)

    def test_prices_many_times_as_great(self):
        count = 0
        for chance, net in nets(30):
            by = chance.choice((2, 3, 100))
            count += self.assert_goes_along(chance, net, changed_moves(net, same, times_move(by)),
                                            worth=lambda s, t, told: times(told, frac(by)))
        self.assertGreater(count, 150)

    def test_more_room(self):
        count = 0
        for chance, net in nets(40, endless=0.1):
            other = net.twin()
            for name, passage, room, price, _ in told_places(net):
                if passage is not None:
                    other.through(name, None if chance.random() < 0.2 else (passage[0] + 2, passage[1]))
                if room is not None and price[0] >= 0:
                    other.store(name, (room[0] + 1, room[1]), price)
            for name, _, _, _, _, rungs in told_roads(net):
                more = tuple((None if room is None else (room[0] + chance.randint(0, 2), room[1]), price)
                             for room, price in rungs)
                other.change(name, rungs=more)
            narrow, wide = Atlas(net), Atlas(other)
            if narrow.reach()[0] is None or narrow.bottom()[0] is None:
                continue
            self.assertEqual(narrow.reach()[0].meet(wide.reach()[0]), narrow.reach()[0])
            for s in settings(chance, narrow.reach()[0].low, narrow.reach()[0].high, 2):
                for t in settings(chance, narrow.bottom()[0].low, narrow.bottom()[0].high, 2):
                    if wide.bottom()[0] is not None and wide.bottom()[0].holds(t):
                        self.assertFalse(before(narrow.worth(s, t), wide.worth(s, t)))
                        count += 1
        self.assertGreater(count, 150)

    def test_time_turned_about(self):
        count = 0
        for chance, net in nets(30, passages=0):
            places = [(name, None, room, price, [(-base, -step) for base, step in wants[::-1]])
                      for name, _, room, price, wants in told_places(net)]
            roads = [(name, end, start, *rest) for name, start, end, *rest in told_roads(net)]
            other = built(net.hours, net.s_box, net.t_box, places, roads)
            count += self.assert_goes_along(chance, net, other)
            self.assert_line_goes_along(net, other)
        self.assertGreater(count, 150)

    def test_prices_shifted_by_heights(self):
        count = 0
        for chance, net in nets(30):
            heights = {name: (chance.randint(-9, 9), chance.randint(-9, 9)) for name in net.place_names()}
            roads = []
            for name, start, end, takes, floor, rungs in told_roads(net):
                rise = [heights[end][at] - heights[start][at] for at in (0, 1)]
                told = tuple((room, (base + rise[0], step + rise[1])) for room, (base, step) in rungs)
                roads.append((name, start, end, takes, floor, told))
            other = built(net.hours, net.s_box, net.t_box, told_places(net), roads)

            def more(s, t, told):
                for name, *_, wants in told_places(net):
                    for want in wants:
                        told = plus(told, times(value(want, s), value(heights[name], t)))
                return told

            count += self.assert_goes_along(chance, net, other, worth=more)
        self.assertGreater(count, 150)


class AskedOfBothTest(SameCase):
    def test_functions_and_atlas(self):
        for _, net in nets(12):
            atlas = Atlas(net)
            self.assertEqual((reach(net), bottom(net)), (atlas.reach(), atlas.bottom()))
            self.assertEqual(len(runs_of(net)), len(net.parts()))

    def test_whole_settings_have_whole_plans(self):
        """Where some whole loads fit there is a plan, and where none do there is none, either."""
        for chance, net in nets(40, places=2, roads=2, top=2, hours=1, endless=0):
            if len(net.parts()) > 3:
                continue
            span = reach(net)[0]
            for s in range(-3, 4):
                self.assertEqual(any(True for _ in whole_plans(net, s, 3)), span is not None and span.holds((s, 1)))
            self.assertEqual((net.s_box, net.t_box), (S_BOX, T_BOX))


if __name__ == "__main__":
    unittest.main()
