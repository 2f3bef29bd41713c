"""Nets for the tests, made from numbers of a known seed, and what is found of them without the program."""

import itertools
import random

from dialweir.errors import Below, Falls, TooFar
from dialweir.fracs import frac
from dialweir.net import MOST, Net



def worth(move, at):
    """What a move is worth at a setting, a fraction."""
    return frac(move[0] * at[1] + move[1] * at[0], at[1])


def move_above(chance, box, top):
    """A move that is from nought to about `top` at both ends of the box."""
    low, high = box
    first, last = chance.randint(0, top), chance.randint(0, top)
    step = 0 if low == high else (last - first) // (high - low)
    return (max(first - step * low, -step * low, -step * high), step)


def move_near(chance, box, top):
    """A move of any sign, not far beyond `top` in the box."""
    wide = max(1, abs(box[0]), abs(box[1]))
    return (chance.randint(-top, top), chance.randint(-top, top) // wide)


def plain_count(net):
    """How many plain arcs the net is led down to, counted by its looks."""
    count = 0
    for name in net.road_names():
        _, _, takes, _, rungs = net.road_told(name)
        count += len(range(takes, net.hours)) * len(rungs)
    for name in net.place_names():
        passage, room, _, _ = net.place_told(name)
        count += (passage is not None) * net.hours + (room != (0, 0)) * (net.hours - 1)
    return count


def tried(net, deed, most):
    """The net behind the deed, or as it was where the deed is refused or makes it too great."""
    trial = net.twin()
    try:
        deed(trial)
    except (Below, Falls, TooFar):
        return net
    return trial if plain_count(trial) <= most else net


def rungs_of(chance, shape):
    """One to four rungs, whose prices do not fall."""
    t_box, s_box, top, cheap = shape["t"], shape["s"], shape["top"], shape["cheap"]
    price = move_near(chance, t_box, cheap)
    if not shape.get("below", False):
        price = move_above(chance, t_box, cheap)
    rungs = []
    count = chance.choice((1, 1, 2, 3, 4))
    for rung in range(count):
        endless = rung == count - 1 and chance.random() < shape.get("endless", 0.25)
        rungs.append((None if endless else move_above(chance, s_box, top), price))
        rise = move_above(chance, t_box, cheap // 3)
        price = (price[0] + rise[0], price[1] + rise[1])
    return tuple(rungs)


def carried_wants(chance, net, top):
    """For each (place, hour) the want that some loads of the net meet."""
    wants = {spot: (0, 0) for spot in net.spots()}
    for name, hour in net.parts():
        if name in net.place_names():
            start, end, takes, floor, rungs = name, name, 1, (0, 0), ((net.place_told(name)[1], (0, 0)),)
        else:
            start, end, takes, floor, rungs = net.road_told(name)
        load = floor
        for room, _ in rungs:
            by = chance.choice((0, 0, 1, 1, 2, 3))
            if by and room is None:
                room = (chance.randint(0, top), 0)
            if by:
                load = (load[0] + room[0] // by, load[1] + room[1] // by)
        for spot, sign in (((start, hour), -1), ((end, hour + takes), 1)):
            wants[spot] = (wants[spot][0] + sign * load[0], wants[spot][1] + sign * load[1])
    return wants


def made_net(seed, **shape):
    """A net of this shape, whose wants are made from loads, so that most of them have plans."""
    chance = random.Random(seed)
    shape = {"hours": 2, "places": 4, "roads": 6, "s": (-3, 3), "t": (-2, 4), "top": 9, "cheap": 9, "most": 96, **shape}
    net = Net(hours=shape["hours"], s_box=shape["s"], t_box=shape["t"])
    names = [f"p{number}" for number in range(shape["places"])]
    for name in names:
        net.place(name)
    for number in range(shape["roads"] if names else 0):
        run = {"takes": chance.choice((0, 0, 0, 1, 1, 2)), "rungs": rungs_of(chance, shape)}
        if chance.random() < 0.3:
            run["floor"] = move_above(chance, shape["s"], shape["top"] // 3)
        ends = (chance.choice(names), chance.choice(names))
        net = tried(net, lambda trial: trial.road(f"r{number}", *ends, **run), shape["most"])
    for name in names:
        room = chance.choice((None, move_above(chance, shape["s"], shape["top"])))
        price = move_near(chance, shape["t"], shape["cheap"] // 2)
        if chance.random() < shape.get("stores", 0.4):
            net = tried(net, lambda trial: trial.store(name, room, price), shape["most"])
        passage = move_above(chance, shape["s"], shape["top"] * 4)
        if chance.random() < shape.get("passages", 0.3):
            net = tried(net, lambda trial: trial.through(name, passage), shape["most"])
    for (place, hour), want in carried_wants(chance, net, shape["top"]).items():
        if all(abs(number) <= MOST for number in want):
            net.want(place, hour, want)
    return net


def settings(chance, low, high, count):
    """Both ends of a stretch of fractions, and some settings between."""
    told = [low, high]
    for _ in range(count):
        share = frac(chance.randint(0, 60), 60)
        top = low[0] * high[1] * (share[1] - share[0]) + high[0] * low[1] * share[0]
        told.append(frac(top, low[1] * high[1] * share[1]))
    return told


def runs_of(net):
    """(name, hour, start, end, floor, rungs) of each part, by the net's looks alone."""
    runs = []
    for name, hour in net.parts():
        if name in net.place_names():
            _, room, price, _ = net.place_told(name)
            runs.append((name, hour, (name, hour), (name, hour + 1), (0, 0), ((room, price),)))
        else:
            start, end, takes, floor, rungs = net.road_told(name)
            runs.append((name, hour, (start, hour), (end, hour + takes), floor, rungs))
    return runs


def whole_plans(net, s, most):
    """All whole loads that fit at the whole setting s, loads without end up to `most`, gone through one by one."""
    runs = runs_of(net)
    choices = []
    for _, _, _, _, floor, rungs in runs:
        low = floor[0] + floor[1] * s
        rooms = [most if room is None else room[0] + room[1] * s for room, _ in rungs]
        choices.append(range(low, low + sum(rooms) + 1))
    for loads in itertools.product(*choices):
        if fits(net, runs, loads, s):
            yield list(loads)


def fits(net, runs, loads, s):
    """Whether whole loads meet each want and each passage at the whole setting s."""
    comes = {spot: 0 for spot in net.spots()}
    leaves = dict(comes)
    for (_, _, start, end, _, _), load in zip(runs, loads):
        leaves[start] += load
        comes[end] += load
    for place, hour in net.spots():
        passage, _, _, wants = net.place_told(place)
        base, step = wants[hour - 1]
        if comes[place, hour] - leaves[place, hour] != base + step * s:
            return False
        if passage is not None and comes[place, hour] > passage[0] + passage[1] * s:
            return False
    return True


def whole_cost(net, loads, s, t):
    """What whole loads cost at whole settings, unit by unit."""
    total = 0
    for (_, _, _, _, floor, rungs), load in zip(runs_of(net), loads):
        low = floor[0] + floor[1] * s
        total += low * (rungs[0][1][0] + rungs[0][1][1] * t)
        left = load - low
        for room, (base, step) in rungs:
            part = left if room is None else min(left, room[0] + room[1] * s)
            total += part * (base + step * t)
            left -= part
    return total
