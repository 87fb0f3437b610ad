"""Standings written as texts, and read."""

from slidefloor.errors import BadText, SlideError
from slidefloor.floors import LONGEST_SIDE, need_standing

BETWEEN_ROWS = " / "
BETWEEN_NUMBERS = " "
EMPTY_SIGN = "-"


def standing_text(floor, standing):
    """The text of a standing."""
    need_standing(floor, standing)
    words = [written(number) for number in standing]
    wide = floor[0]
    rows = [words[at:at + wide] for at in range(0, len(words), wide)]
    return BETWEEN_ROWS.join([BETWEEN_NUMBERS.join(row) for row in rows])


def standing_of(text):
    """The floor and the standing that a text tells."""
    if type(text) != str:
        raise BadText("a standing is written as a text")
    rows = [row.split(BETWEEN_NUMBERS) for row in text.split(BETWEEN_ROWS)]
    floor = (len(rows[0]), len(rows))
    for row in rows:
        if len(row) != floor[0]:
            raise BadText("all rows of a floor are as wide")
    standing = tuple([read_number(word) for row in rows for word in row])
    try:
        need_standing(floor, standing)
    except SlideError:
        raise BadText("the text tells no standing of a floor") from None
    return floor, standing


def written(number):
    """How a number of a standing is written."""
    if number == 0:
        return EMPTY_SIGN
    return str(number)


def read_number(word):
    """The number that is written so."""
    # Not by int: that would also read a nought, a sign or blanks ahead.
    for number in range(LONGEST_SIDE * LONGEST_SIDE):
        if written(number) == word:
            return number
    raise BadText("a number is written by figures alone, the empty place as -")
