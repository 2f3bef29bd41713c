"""Nets of places and roads: the deeds that change them, each done whole or refused whole, and the looks."""

from dialweir.errors import BadBox, BadHours, BadRungs, BadTakes, Below, Falls, InUse, NoHour, NoName, NoPlace, NoRoad
from dialweir.errors import Taken, TooFar, TooMany
from dialweir.moves import take
from dialweir.names import check_name
from dialweir.rowing import do_rows, text_of

MOST = 1000000
MOST_HOURS = 6
MOST_PLACES = 12
MOST_ROADS = 24
MOST_RUNGS = 4
MOST_TAKES = 9
MOST_ARCS = 96
OPEN_RUNG = ((None, (0, 0)),)


class Net:
    """Places and roads over some hours, within a box of settings of the dials s and t."""

    def __init__(self, *, hours=1, s_box=(0, 0), t_box=(0, 0)):
        if not 1 <= hours <= MOST_HOURS:
            raise BadHours(hours)
        _check_box("s", s_box)
        _check_box("t", t_box)
        self.hours = hours
        self.s_box = s_box
        self.t_box = t_box
        # Under each name stands what place_told and road_told tell of it.
        self._places = {}
        self._roads = {}

    def __eq__(self, other):
        return isinstance(other, Net) and text_of(self) == text_of(other)

    def __len__(self):
        return len(self._roads)

    def __str__(self):
        return str(text_of(self))

    def __repr__(self):
        return f"Net of {len(self._places)} places, {len(self._roads)} roads, {self.hours} hours"

    def place(self, name):
        """A new place, behind the others."""
        self._check_free(name)
        if len(self._places) >= MOST_PLACES:
            raise TooMany(MOST_PLACES)
        self._places[name] = (None, (0, 0), (0, 0), ((0, 0),) * self.hours)

    def want(self, place, hour, move=(0, 0)):
        """What the place wants at the hour."""
        passage, room, price, wants = self.place_told(place)
        if not 1 <= hour <= self.hours:
            raise NoHour(hour)
        _check_near(move)
        self._places[place] = (passage, room, price, wants[:hour - 1] + (move,) + wants[hour:])

    def through(self, place, room=None):
        """The room of the place's passage."""
        _, store_room, price, wants = self.place_told(place)
        _check_room_near(room)
        _check_room(place, room, self.s_box)
        self._places[place] = (room, store_room, price, wants)

    def store(self, place, room=(0, 0), price=(0, 0)):
        """The room and the price of the place's store."""
        passage, _, _, wants = self.place_told(place)
        _check_room_near(room)
        _check_near(price)
        _check_room(place, room, self.s_box)
        # A store of the room (0, 0) is none at all, so that no price of it is kept.
        kept = (0, 0) if room == (0, 0) else price
        self._places[place] = (passage, room, kept, wants)

    def road(self, name, start, end, *, takes=0, floor=(0, 0), rungs=OPEN_RUNG):
        """A new road, behind the others."""
        self._check_free(name)
        self._check_place(start)
        self._check_place(end)
        if len(self._roads) >= MOST_ROADS:
            raise TooMany(MOST_ROADS)
        _check_run(name, (takes, floor, rungs), self.s_box, self.t_box)
        self._roads[name] = (start, end, takes, floor, rungs)

    def change(self, name, *, takes=None, floor=None, rungs=None):
        """What is handed in, set of a road; the rest of it stays as it stood."""
        start, end, old_takes, old_floor, old_rungs = self.road_told(name)
        new_takes = old_takes if takes is None else takes
        new_floor = old_floor if floor is None else floor
        new_rungs = old_rungs if rungs is None else rungs
        _check_run(name, (new_takes, new_floor, new_rungs), self.s_box, self.t_box)
        self._roads[name] = (start, end, new_takes, new_floor, new_rungs)

    def box(self, *, s=None, t=None):
        """Other boxes of the dials, where no floor, room or price forbids them."""
        s_box = self.s_box if s is None else s
        t_box = self.t_box if t is None else t
        _check_box("s", s_box)
        _check_box("t", t_box)
        for name, (passage, room, _, _) in self._places.items():
            _check_room(name, passage, s_box)
            _check_room(name, room, s_box)
        for name, (_, _, takes, floor, rungs) in self._roads.items():
            _check_run(name, (takes, floor, rungs), s_box, t_box)
        self.s_box = s_box
        self.t_box = t_box

    def strike(self, name):
        """A road, or a place that no road needs, taken out."""
        if name in self._roads:
            del self._roads[name]
            return
        if name not in self._places:
            raise NoName(name)
        if any([name in (start, end) for start, end, _, _, _ in self._roads.values()]):
            raise InUse(name)
        del self._places[name]

    def rows(self, lines):
        """Rows done one by one, all or not at all."""
        trial = self.twin()
        do_rows(trial, lines, 1)
        self.s_box = trial.s_box
        self.t_box = trial.t_box
        self._places = trial._places
        self._roads = trial._roads

    def place_names(self):
        return list(self._places)

    def road_names(self):
        return list(self._roads)

    def place_told(self, name):
        """(room of the passage, the store's room, the store's price, the wants by hour)."""
        self._check_place(name)
        return self._places[name]

    def road_told(self, name):
        """(start, end, takes, floor, rungs)."""
        if name not in self._roads:
            raise NoRoad(name)
        return self._roads[name]

    def parts(self):
        """The pairs (name, hour) at which something may set out: of roads, then of stores."""
        told = []
        for name, (_, _, takes, _, _) in self._roads.items():
            told.extend([(name, hour) for hour in range(1, self.hours - takes + 1)])
        for name, (_, room, _, _) in self._places.items():
            if room != (0, 0):
                told.extend([(name, hour) for hour in range(1, self.hours)])
        return told

    def spots(self):
        """The pairs (place, hour)."""
        return [(name, hour) for name in self._places for hour in range(1, self.hours + 1)]

    def twin(self):
        """A net like this one that stands by itself."""
        other = Net(hours=self.hours, s_box=self.s_box, t_box=self.t_box)
        other._places = dict(self._places)
        other._roads = dict(self._roads)
        return other

    def _check_free(self, name):
        """Refuse what is no name, and a name that is in use already."""
        check_name(name)
        if name in self._places or name in self._roads:
            raise Taken(name)

    def _check_place(self, name):
        if name not in self._places:
            raise NoPlace(name)


def _check_near(pair):
    """Refuse the first number of a move, or of a box, that is beyond the bounds."""
    for number in pair:
        if not -MOST <= number <= MOST:
            raise TooFar(number)


def _check_room_near(room):
    if room is not None:
        _check_near(room)


def _check_box(dial, box):
    _check_near(box)
    low, high = box
    if low > high:
        raise BadBox(dial)


def _least(move, box):
    """The least that the move is worth in the box: a straight line has it at an end."""
    base, step = move
    return min([base + step * setting for setting in box])


def _check_room(name, room, s_box):
    """Refuse a floor or a room that is below nought somewhere in the box."""
    if room is not None and _least(room, s_box) < 0:
        raise Below(name)


def _check_run(name, run, s_box, t_box):
    """Refuse what a road may not have of (takes, floor, rungs), in the order that is told."""
    takes, floor, rungs = run
    if not 0 <= takes <= MOST_TAKES:
        raise BadTakes(takes)
    _check_near(floor)
    _check_room(name, floor, s_box)
    _check_rungs(name, rungs)
    for room, price in rungs:
        _check_room_near(room)
        _check_near(price)
        _check_room(name, room, s_box)
    _check_prices(name, [price for _, price in rungs], t_box)


def _check_rungs(name, rungs):
    """Refuse rungs that are none, too many, or without end ahead of the last."""
    if len(rungs) == 0 or len(rungs) > MOST_RUNGS:
        raise BadRungs(name)
    if any([room is None for room, _ in rungs[:-1]]):
        raise BadRungs(name)


def _check_prices(name, prices, t_box):
    """Refuse a price that is less than the one ahead of it somewhere in the box."""
    for ahead, behind in zip(prices, prices[1:]):
        if _least(take(behind, ahead), t_box) < 0:
            raise Falls(name)
