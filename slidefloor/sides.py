"""Sides, and which standings are joined by moves."""

from math import factorial

from slidefloor.floors import column_and_row, count_places, need_standing


def side(floor, standing):
    """The side of a standing, 0 or 1; moves leave it as it is."""
    need_standing(floor, standing)
    x, y = column_and_row(floor, standing.index(0))
    return (count_falls(standing) + x + y) % 2


def is_joined(floor, one, other):
    """Whether some moves lead from the one standing to the other."""
    need_standing(floor, one)
    need_standing(floor, other)
    if is_line(floor):
        return tiles_in_order(one) == tiles_in_order(other)
    return side(floor, one) == side(floor, other)


def how_many(floor, standing):
    """How many standings are joined with this one, itself too."""
    need_standing(floor, standing)
    places = count_places(floor)
    if is_line(floor):
        # The order of the tiles stays, so only the empty place tells them apart.
        return places
    # Two tiles exchanged give the other side, so each side has half of all.
    return factorial(places) // 2


def is_line(floor):
    """Whether a floor has only one row or one column."""
    return 1 in floor


def count_falls(standing):
    """How many pairs of places have the greater number on the lesser place."""
    falls = 0
    for place, number in enumerate(standing):
        for later in standing[place + 1:]:
            if number > later:
                falls += 1
    return falls


def tiles_in_order(standing):
    """The tiles of a standing without the empty place."""
    return [number for number in standing if number != 0]
