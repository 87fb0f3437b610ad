"""Ways: lists of moves that lead from one standing to another."""

from collections import deque

from slidefloor.floors import column_and_row, count_places
from slidefloor.moves import TILE_STANDS, do_move, tile_place
from slidefloor.sides import is_joined


def way(floor, one, other):
    """A way from the one standing to the other, None where they aren't joined."""
    if not is_joined(floor, one, other):
        return None
    numbers = list(one)
    words = []
    filled = []
    for group in groups(floor, other.index(0)):
        tiles = [other[place] for place in group]
        found = words_to_fill(floor, filled, numbers, tiles, group)
        for word in found:
            do_move(floor, numbers, word)
        words.extend(found)
        filled.extend(group)
    return words


def groups(floor, empty):
    """Lists of places, in the order in which they are filled for good.

    Row by row and then column by column is taken off the floor, from that end at
    which the other standing hasn't its empty place, until at most 2 by 2 are left.
    """
    x, y = column_and_row(floor, empty)
    columns = list(range(floor[0]))
    rows = list(range(floor[1]))
    found = []
    while len(rows) > 2:
        row = pop_end(rows, y)
        places = [row * floor[0] + column for column in columns]
        found.extend([[place] for place in places[:-2]])
        # The last two of a row go together: one of them alone in its place
        # would bar the other one's way.
        found.append(places[-2:])
    while len(columns) > 2:
        column = pop_end(columns, x)
        found.append([row * floor[0] + column for row in rows])
    rest = [row * floor[0] + column for row in rows for column in columns]
    rest.remove(empty)
    found.append(rest)
    return found


def pop_end(numbers, kept):
    """Take the first number off the list, or the last one where the first is to be kept."""
    if numbers[0] == kept:
        return numbers.pop()
    return numbers.pop(0)


def words_to_fill(floor, filled, numbers, tiles, places):
    """The fewest moves that bring these tiles to these places past the filled ones."""
    goes = empty_goes(floor, filled)
    start = tuple([numbers.index(number) for number in [0] + tiles])
    leads = {start: []}
    waiting = deque()
    now = start
    # Only the empty place and these tiles are told apart, so there is little to
    # look through; the end comes, as the standings are joined.
    while list(now[1:]) != places:
        for word, there in goes[now[0]]:
            # The tile from there, if it is one of these, comes to where it was empty.
            then = (there,) + tuple([now[0] if place == there else place for place in now[1:]])
            if then not in leads:
                leads[then] = leads[now] + [word]
                waiting.append(then)
        now = waiting.popleft()
    return leads[now]


def empty_goes(floor, filled):
    """For each place the moves by which the empty place goes on, with where to."""
    goes = {}
    for place in range(count_places(floor)):
        goes[place] = []
        for word in TILE_STANDS:
            there = tile_place(floor, place, word)
            if there is not None and there not in filled:
                goes[place].append((word, there))
    return goes
