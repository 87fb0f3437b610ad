"""Floors, and how tiles stand on them."""

from slidefloor.errors import BadFloor, BadStanding

LONGEST_SIDE = 4
FEWEST_PLACES = 2


def need_floor(floor):
    """Refuse what is no floor."""
    if type(floor) != tuple or len(floor) != 2:
        raise BadFloor("a floor is a tuple (wide, high)")
    for length in floor:
        if not is_number(length) or length < 1 or length > LONGEST_SIDE:
            raise BadFloor("each side of a floor has 1 to 4 places")
    if count_places(floor) < FEWEST_PLACES:
        raise BadFloor("a floor has two places at least")


def need_standing(floor, standing):
    """Refuse what is no floor, then what is no standing of it."""
    need_floor(floor)
    places = count_places(floor)
    if type(standing) != tuple or len(standing) != places:
        raise BadStanding("a standing is a tuple with a number for each place")
    for number in standing:
        if not is_number(number):
            raise BadStanding("a standing has only numbers")
    if sorted(standing) != list(range(places)):
        raise BadStanding("a standing has each number from 0 up once")


def ordered(floor):
    """The standing 1, 2, 3 and so on with the empty place last."""
    need_floor(floor)
    return tuple(range(1, count_places(floor))) + (0,)


def is_number(value):
    """Whether this is a whole number."""
    # isinstance would let True and False by.
    return type(value) == int


def count_places(floor):
    """How many places a floor has."""
    wide, high = floor
    return wide * high


def column_and_row(floor, place):
    """x and y of a place."""
    wide = floor[0]
    return place % wide, place // wide
