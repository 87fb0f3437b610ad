"""Moves: which can be done, and what comes of them."""

from slidefloor.errors import BadMove
from slidefloor.floors import column_and_row, need_standing

# Seen from the empty place, the tile that goes there stands the other way:
# so many columns to the right, so many rows down.
TILE_STANDS = {"up": (0, 1), "down": (0, -1), "left": (1, 0), "right": (-1, 0)}


def moves(floor, standing):
    """The moves that can be done, in the order up, down, left, right."""
    need_standing(floor, standing)
    empty = standing.index(0)
    return [word for word in TILE_STANDS if tile_place(floor, empty, word) is not None]


def moved(floor, standing, words):
    """The standing behind a list of moves."""
    need_standing(floor, standing)
    if type(words) != list:
        raise BadMove("moves are handed in as a list")
    numbers = list(standing)
    for word in words:
        do_move(floor, numbers, word)
    return tuple(numbers)


def do_move(floor, numbers, word):
    """Do a move in the list of a standing's numbers."""
    # Other kinds go first: not all of them can be looked up in a dict.
    if type(word) != str or word not in TILE_STANDS:
        raise BadMove("a move is up, down, left or right")
    empty = numbers.index(0)
    place = tile_place(floor, empty, word)
    if place is None:
        raise BadMove(f"no tile can go {word}")
    numbers[empty] = numbers[place]
    numbers[place] = 0


def tile_place(floor, empty, word):
    """The place of the tile that goes to the empty one, None if there is none."""
    wide, high = floor
    x, y = column_and_row(floor, empty)
    right, down = TILE_STANDS[word]
    x += right
    y += down
    if x < 0 or x >= wide or y < 0 or y >= high:
        return None
    return y * wide + x
