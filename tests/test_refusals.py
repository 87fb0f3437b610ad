"""Points 1, 3 and 8 over the whole program: of several refusals the first one due is given."""

import copy
import itertools
import unittest

from slidefloor.box import Box
from slidefloor.errors import BadFloor, BadMove, BadStanding, BadText, TooMany
from slidefloor.few import farthest, fewest
from slidefloor.floors import need_floor, need_standing, ordered
from slidefloor.moves import moved, moves
from slidefloor.notes import standing_of, standing_text
from slidefloor.sides import how_many, is_joined, side
from slidefloor.ways import way
from tests.helper import FLOORS, OTHERS, LikeAll, Pretender

# What each function is handed in, in the order of its arguments.
CALLS = [
    (need_floor, ["floor"]),
    (ordered, ["floor"]),
    (need_standing, ["floor", "standing"]),
    (moves, ["floor", "standing"]),
    (moved, ["floor", "standing", "words"]),
    (side, ["floor", "standing"]),
    (is_joined, ["floor", "standing", "standing"]),
    (how_many, ["floor", "standing"]),
    (way, ["floor", "standing", "standing"]),
    (fewest, ["floor", "standing", "standing"]),
    (farthest, ["floor", "standing"]),
    (standing_text, ["floor", "standing"]),
    (Box, ["floor", "standing"]),
]

BAD = {
    "floor": [(1, 1), (0, 4), (5, 2), (2, 2, 2), (True, 4), [2, 2], None, "22", LikeAll(), Pretender(tuple)],
    "standing": [
        (), (0, 1), (1, 2, 3, 3), (1, 2, 3, False), (1, 2, 3, -1), [1, 2, 3, 0], None, "1 2 / 3 -", 0,
        LikeAll(), Pretender(tuple),
    ],
    "words": [("down",), "down", None, ["north"], [["down"]], [0], [None], [LikeAll()], Pretender(list)],
}

KINDS = {"floor": BadFloor, "standing": BadStanding, "words": BadMove}

# On these floors all standings have four places; on the last ones more than six.
SMALL = [(2, 2), (4, 1), (1, 4)]
GREAT = [(4, 4), (3, 3), (2, 4)]


def good_of(name, floor):
    return {"floor": floor, "standing": ordered(floor), "words": []}[name]


def kind_due(function, arguments, wrong, floor):
    """The refusal that is due where the arguments at these indexes are wrong, None for none."""
    if wrong:
        return KINDS[arguments[wrong[0]]]
    if function in [fewest, farthest] and floor in GREAT:
        return TooMany
    return None


def some_wrong(arguments):
    """Each choice of at most three indexes of arguments that are wrong."""
    indexes = range(len(arguments))
    return [wrong for many in range(4) for wrong in itertools.combinations(indexes, many)]


class FirstDueTest(unittest.TestCase):
    def test_each_function_with_each_choice_of_wrong_arguments(self):
        for function, arguments in CALLS:
            for floor, wrong in itertools.product(SMALL + GREAT, some_wrong(arguments)):
                due = kind_due(function, arguments, wrong, floor)
                for bad in itertools.product(*(BAD[arguments[at]] for at in wrong)):
                    handed = [good_of(name, floor) for name in arguments]
                    for at, thing in zip(wrong, bad):
                        handed[at] = thing
                    with self.subTest(name=function.__name__, floor=floor, wrong=wrong):
                        self.check(function, handed, due)

    def check(self, function, handed, due):
        if due is None:
            function(*handed)
            return
        with self.assertRaises(due) as caught:
            function(*handed)
        self.assertIs(type(caught.exception), due)

    def test_moves_that_can_not_be_done_are_the_last_refusal(self):
        for floor in FLOORS:
            last = ordered(floor)
            self.assertRaises(BadMove, moved, floor, last, ["up"])
            self.assertRaises(BadMove, moved, floor, last, ["left"])
            self.assertRaises(BadStanding, moved, floor, list(last), ["up"])
            self.assertRaises(BadFloor, moved, list(floor), last, ["up"])

    def test_too_many_only_where_few_moves_are_asked_for(self):
        for function, arguments in CALLS:
            for floor in GREAT:
                if function not in [fewest, farthest]:
                    with self.subTest(name=function.__name__, floor=floor):
                        function(*[good_of(name, floor) for name in arguments])

    def test_the_one_text_that_is_handed_in(self):
        for number, thing in enumerate(OTHERS):
            with self.subTest(number=number, kind=type(thing).__name__):
                self.assertRaises(BadText, standing_of, thing)


class HandedInTest(unittest.TestCase):
    def test_a_list_that_is_refused_stays(self):
        own = [[2, 2], [1, 2, 3, 0], ["down", "north"], ["down", "right", "right"], [[], {}]]
        for function, arguments in CALLS:
            for at in range(len(arguments)):
                for thing in own:
                    handed = [good_of(name, (2, 2)) for name in arguments]
                    handed[at] = copy.deepcopy(thing)
                    with self.subTest(name=function.__name__, at=at, thing=thing):
                        self.assertRaises(KINDS[arguments[at]], function, *handed)
                        self.assertEqual(handed[at], thing)

    def test_asked_again_the_same_is_told(self):
        for function, arguments in CALLS:
            if function is not Box:
                for floor in SMALL:
                    handed = [good_of(name, floor) for name in arguments]
                    with self.subTest(name=function.__name__, floor=floor):
                        told = copy.deepcopy(function(*handed))
                        again = function(*handed)
                        self.assertEqual(again, told)
                        if type(again) is list:
                            again.append("up")
                        self.assertEqual(function(*handed), told)


if __name__ == "__main__":
    unittest.main()
