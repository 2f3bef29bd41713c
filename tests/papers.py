"""A net whose papers are told by hand."""

from dialweir.net import Net

UP = (((3, 0), (1, 0)), ((2, 1), (2, 1)))
DOWN = (((4, 0), (0, 1)), (None, (3, 1)))


def works():
    """A spring that gives 6+1s and then 1, a mill with passages and a store, and a sea that wants 4 and then 3+1s."""
    net = Net(hours=2, s_box=(0, 4), t_box=(0, 4))
    net.place("spring")
    net.place("mill")
    net.place("sea")
    net.want("spring", 1, (-6, -1))
    net.want("spring", 2, (-1, 0))
    net.want("sea", 1, (4, 0))
    net.want("sea", 2, (3, 1))
    net.through("mill", (6, 1))
    net.store("mill", (5, 1), (1, 0))
    net.road("up", "spring", "mill", floor=(1, 0), rungs=UP)
    net.road("down", "mill", "sea", rungs=DOWN)
    return net


# The one plan of works(): what comes at the first hour and is not wanted then is stored.
LOADS = [("up", 1, 6, 1), ("up", 2, 1, 0), ("down", 1, 4, 0), ("down", 2, 3, 1), ("mill", 1, 2, 1)]

# Prices that suit it where s is from 0 to 1: then the second hour's way to the sea is not full on its first rung.
PRICES = [
    ("spring", 1, "door", 0, 0), ("spring", 1, "hall", 0, 0), ("spring", 2, "door", 2, 1), ("spring", 2, "hall", 2, 1),
    ("mill", 1, "door", 2, 1), ("mill", 1, "hall", 2, 1), ("mill", 2, "door", 3, 1), ("mill", 2, "hall", 3, 1),
    ("sea", 1, "door", 5, 2), ("sea", 1, "hall", 5, 2), ("sea", 2, "door", 3, 2), ("sea", 2, "hall", 3, 2),
]

# What LOADS costs where s is from 0 to 1.
FOUR = (11, 3, 9, 2)


def set_row(rows, at, row):
    """The rows with another one instead of that one."""
    return rows[:at] + [row] + rows[at + 1:]


def raised(prices, changes):
    """The prices, those of some (place, hour, part) changed by a move."""
    told = []
    for place, hour, part, base, step in prices:
        more = changes.get((place, hour, part), (0, 0))
        told.append((place, hour, part, base + more[0], step + more[1]))
    return told
