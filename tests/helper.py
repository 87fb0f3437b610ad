"""What several tests need: floors, standings, and things that are neither."""

import random
import sys

from slidefloor.moves import moved, moves

WORDS = ["up", "down", "left", "right"]

# The way the empty place goes at each move: against the tile.
EMPTY_GOES = {"up": (0, 1), "down": (0, -1), "left": (1, 0), "right": (-1, 0)}

FLOORS = [(wide, high) for wide in range(1, 5) for high in range(1, 5) if (wide, high) != (1, 1)]
LINES = [floor for floor in FLOORS if 1 in floor]
BROAD = [floor for floor in FLOORS if 1 not in floor]


class LikeAll:
    """An object that says it is equal to anything."""

    def __eq__(self, other):
        return True

    def __hash__(self):
        return hash("up")


class Pretender:
    """An object that claims to be of the kind that it is told."""

    def __init__(self, kind):
        self.kind = kind

    @property
    def __class__(self):
        return self.kind


def endless_list():
    own = []
    own.append(own)
    return own


# Of no kind that is asked for anywhere.
OTHERS = [
    None, True, False, 0, 1, 4, -1, "", "up", "22", "12", b"", b"\x02\x02", {}, {2: 2},
    set(), {2, 3}, frozenset({2, 3}), object(), len, int, tuple, LikeAll(), range(2), range(4),
    bytearray(b"\x02\x02"), iter([2, 2]), zip([2], [2]), Ellipsis, NotImplemented,
    Pretender(tuple), Pretender(list), Pretender(int), Pretender(str),
]

BAD_FLOORS = OTHERS + [
    [], [2, 2], [1, 2], endless_list(), (), (2,), (2, 2, 2), (1, 2, 3), (2, 2, 0), ((2, 2),),
    (1, 1), (0, 0), (0, 1), (0, 2), (2, 0), (0, 4), (4, 0), (-1, 2), (2, -1), (-1, -1), (-2, -2),
    (-1, -4), (5, 1), (1, 5), (5, 2), (2, 5), (4, 5), (5, 4), (5, 5), (10 ** 40, 2), (2, 10 ** 40),
    (True, 2), (2, True), (True, True), (False, 2), (2, False), (1, True), (True, 4),
    ("2", 2), (2, "2"), ("2", "2"), (None, 2), (2, None), (b"2", 2), ([2], 2), (2, [2]),
    ((2, 2), 2), (2, (2, 2)), ({}, 2), (2, object()), (2, LikeAll()), (LikeAll(), 2),
    (2, Pretender(int)), (int, 2),
]

FOUR = (2, 2)

# Of the floor FOUR.
BAD_STANDINGS = OTHERS + [
    [], [1, 2, 3, 0], endless_list(), (), (0,), (1, 2, 3), (1, 2, 0), (1, 2, 3, 4, 0),
    (0, 1, 2, 3, 4), (0, 1, 2, 3, 3), (1, 2, 3, 4, 5, 0), ((1, 2, 3, 0),), ((1, 2), (3, 0)),
    (1, 2, 3, 3), (1, 1, 2, 0), (0, 0, 1, 2), (1, 2, 0, 0), (0, 0, 0, 0), (1, 2, 3, 4),
    (1, 2, 4, 0), (1, 2, 3, 10 ** 40), (1, 2, 3, -1), (-1, 0, 1, 2), (-1, -2, -3, 0), (1, 2, -3, 0),
    (True, 2, 3, 0), (1, 2, 3, False), (True, 2, 3, False), (2, 3, False, True),
    ("1", 2, 3, 0), (1, 2, 3, "0"), ("1", "2", "3", "-"), (1, 2, 3, "-"), (1, 2, 3, ""),
    (1, 2, 3, None), (None, 1, 2, 3), (1, 2, 3, b"0"), (1, 2, [3], 0), (1, 2, (3,), 0),
    (1, 2, 3, []), (1, 2, 3, {}), (1, 2, 3, object()), (1, 2, 3, LikeAll()), (LikeAll(), 2, 3, 0),
    (1, 2, 3, Pretender(int)), (1, 2, 3, int),
]


def empty_at(floor, place):
    """A standing of the floor with the empty place there, the tiles in order."""
    wide, high = floor
    tiles = list(range(1, wide * high))
    return tuple(tiles[:place] + [0] + tiles[place:])


def empties(floor):
    """A standing of the floor for each place of the empty place."""
    return [empty_at(floor, place) for place in range(floor[0] * floor[1])]


def way_there(floor, place, word):
    """The place to which the empty place goes by the move, None where it can't."""
    wide, high = floor
    right, down = EMPTY_GOES[word]
    x = place % wide + right
    y = place // wide + down
    if 0 <= x < wide and 0 <= y < high:
        return y * wide + x
    return None


def exchanged(standing, one, other):
    """The standing with what stands on two places exchanged."""
    numbers = list(standing)
    numbers[one], numbers[other] = numbers[other], numbers[one]
    return tuple(numbers)


def all_that_come(floor, standing):
    """The set of all standings that come of this one by moves."""
    met = {standing}
    waiting = [standing]
    while waiting:
        now = waiting.pop()
        for word in moves(floor, now):
            then = moved(floor, now, [word])
            if then not in met:
                met.add(then)
                waiting.append(then)
    return met


def drawn(floor, number, seed=1):
    """So many standings of the floor, the same ones each time."""
    chance = random.Random(f"{floor} {seed}")
    places = range(floor[0] * floor[1])
    return [tuple(chance.sample(places, len(places))) for _ in range(number)]


def counts_from(floor, standing):
    """A dict: each standing that comes of this one, and by how few moves; layer by layer."""
    counts = {standing: 0}
    layer = [standing]
    while layer:
        following = []
        for now in layer:
            empty = now.index(0)
            for word in WORDS:
                there = way_there(floor, empty, word)
                then = now if there is None else exchanged(now, empty, there)
                if then not in counts:
                    counts[then] = counts[now] + 1
                    following.append(then)
        layer = following
    return counts


def lines_run(ask, *handed):
    """How many lines are run until this is answered: unlike seconds, about the same everywhere."""
    lines = 0

    def count(frame, event, _):
        nonlocal lines
        lines += event == "line"
        return count

    kept = sys.gettrace()
    sys.settrace(count)
    try:
        ask(*handed)
    finally:
        sys.settrace(kept)
    return lines
