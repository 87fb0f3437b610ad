import itertools
import math
import unittest

from slidefloor.errors import BadFloor, BadStanding
from slidefloor.floors import ordered
from slidefloor.moves import moved, moves
from slidefloor.sides import how_many, is_joined, side
from tests.helper import BROAD, FLOORS, LINES, all_that_come, empties, exchanged


def side_by_the_sum(floor, standing):
    """The side as point 5 tells it, pair by pair."""
    pairs = itertools.combinations(standing, 2)
    falls = len([1 for lesser_place, greater_place in pairs if lesser_place > greater_place])
    empty = standing.index(0)
    return (falls + empty % floor[0] + empty // floor[0]) % 2


def small_floors(most):
    return [floor for floor in FLOORS if floor[0] * floor[1] <= most]


def turned(standing, by):
    """The standing with what stands there turned by so many places."""
    return standing[by:] + standing[:by]


class SideTest(unittest.TestCase):
    def test_examples(self):
        # 1 2 / 3 -: three pairs with the 0, x is 1, y is 1.
        self.assertEqual(side((2, 2), (1, 2, 3, 0)), 1)
        # 2 1 / 3 -: one more pair.
        self.assertEqual(side((2, 2), (2, 1, 3, 0)), 0)
        # - 1 / 2 3: no pair at all.
        self.assertEqual(side((2, 2), (0, 1, 2, 3)), 0)
        # One pair, x is 1 or y is 1.
        self.assertEqual(side((2, 1), (1, 0)), 0)
        self.assertEqual(side((1, 2), (1, 0)), 0)
        # 3 2 1 -: six pairs; x is 3, y is 3.
        self.assertEqual(side((4, 1), (3, 2, 1, 0)), 1)
        self.assertEqual(side((1, 4), (3, 2, 1, 0)), 1)
        # Fifteen pairs, x and y are 3.
        self.assertEqual(side((4, 4), ordered((4, 4))), 1)

    def test_as_the_sum_says_for_all_standings_of_small_floors(self):
        for floor in small_floors(6):
            for standing in itertools.permutations(range(floor[0] * floor[1])):
                told = side(floor, standing)
                self.assertIs(type(told), int)
                self.assertEqual(told, side_by_the_sum(floor, standing), (floor, standing))

    def test_as_the_sum_says_for_each_place_of_the_empty_place(self):
        for floor in FLOORS:
            for standing in empties(floor):
                for by in range(len(standing)):
                    for shown in [turned(standing, by), turned(standing[::-1], by)]:
                        with self.subTest(floor=floor, standing=shown):
                            self.assertEqual(side(floor, shown), side_by_the_sum(floor, shown))

    def test_each_move_leaves_it(self):
        for floor in FLOORS:
            for standing in empties(floor):
                for shown in [standing, standing[::-1], turned(standing, 1)]:
                    for word in moves(floor, shown):
                        with self.subTest(floor=floor, standing=shown, word=word):
                            then = moved(floor, shown, [word])
                            self.assertEqual(side(floor, then), side(floor, shown))

    def test_two_tiles_exchanged_give_the_other_one(self):
        for floor in FLOORS:
            for standing in empties(floor):
                places = [place for place in range(len(standing)) if standing[place] != 0]
                for one, other in itertools.combinations(places, 2):
                    with self.subTest(floor=floor, standing=standing, one=one, other=other):
                        then = exchanged(standing, one, other)
                        self.assertEqual(side(floor, then), 1 - side(floor, standing))


class IsJoinedTest(unittest.TestCase):
    def test_examples(self):
        self.assertIs(is_joined((2, 2), (1, 2, 3, 0), (0, 1, 3, 2)), True)
        self.assertIs(is_joined((2, 2), (1, 2, 3, 0), (2, 1, 3, 0)), False)
        self.assertIs(is_joined((3, 1), (1, 2, 0), (0, 1, 2)), True)
        self.assertIs(is_joined((3, 1), (1, 2, 0), (2, 1, 0)), False)
        solved = ordered((4, 4))
        self.assertIs(is_joined((4, 4), solved, exchanged(solved, 13, 14)), False)
        self.assertIs(is_joined((4, 4), exchanged(solved, 13, 14), exchanged(solved, 0, 1)), True)

    def test_on_a_line_the_side_alone_does_not_join(self):
        # Three tiles turned keep the side, but the order is another one.
        for floor in [(4, 1), (1, 4)]:
            self.assertEqual(side(floor, (1, 2, 3, 0)), side(floor, (2, 3, 1, 0)))
            self.assertIs(is_joined(floor, (1, 2, 3, 0), (2, 3, 1, 0)), False)
            self.assertIs(is_joined(floor, (2, 3, 1, 0), (1, 2, 3, 0)), False)
            self.assertIs(is_joined(floor, (0, 2, 3, 1), (2, 3, 1, 0)), True)
        self.assertIs(is_joined((2, 2), (1, 2, 3, 0), (2, 3, 1, 0)), True)

    def test_any_two_on_floors_of_at_most_four_places(self):
        for floor in small_floors(4):
            standings = list(itertools.permutations(range(floor[0] * floor[1])))
            for one in standings:
                come = all_that_come(floor, one)
                for other in standings:
                    with self.subTest(floor=floor, one=one, other=other):
                        self.assertIs(is_joined(floor, one, other), other in come)

    def test_either_way_about_on_floors_of_six_places(self):
        for floor in [(3, 2), (2, 3)]:
            for one in [ordered(floor), (5, 4, 0, 2, 1, 3), (0, 2, 1, 3, 4, 5)]:
                come = all_that_come(floor, one)
                for other in itertools.permutations(range(6)):
                    with self.subTest(floor=floor, one=one, other=other):
                        self.assertIs(is_joined(floor, one, other), other in come)
                        self.assertIs(is_joined(floor, other, one), other in come)

    def test_greater_floors(self):
        for floor in BROAD:
            start = ordered(floor)
            for standing in empties(floor):
                alike = side(floor, standing) == side(floor, start)
                for other, told in [(standing, alike), (exchanged_tiles(standing), not alike)]:
                    with self.subTest(floor=floor, other=other):
                        self.assertIs(is_joined(floor, start, other), told)
                        self.assertIs(is_joined(floor, other, start), told)

    def test_rows_and_columns(self):
        for floor in LINES:
            for one, other in itertools.product(empties(floor), repeat=2):
                with self.subTest(floor=floor, one=one, other=other):
                    self.assertIs(is_joined(floor, one, other), True)
                    if len(one) > 2:
                        self.assertIs(is_joined(floor, one, exchanged_tiles(other)), False)
                        self.assertIs(is_joined(floor, exchanged_tiles(one), other), False)

    def test_each_is_joined_with_itself(self):
        for floor in FLOORS:
            for standing in empties(floor):
                self.assertIs(is_joined(floor, standing, standing), True)

    def test_refusals_in_the_order_of_the_arguments(self):
        good = (1, 2, 3, 0)
        for bad in [None, (1, 2, 3, 3), [1, 2, 3, 0], (True, 2, 3, 0), "1 2 / 3 -"]:
            self.assertRaises(BadFloor, is_joined, (1, 1), bad, good)
            self.assertRaises(BadFloor, is_joined, (1, 1), good, bad)
            self.assertRaises(BadFloor, is_joined, None, bad, bad)
            self.assertRaises(BadStanding, is_joined, (2, 2), bad, good)
            self.assertRaises(BadStanding, is_joined, (2, 2), good, bad)
            self.assertRaises(BadStanding, is_joined, (4, 1), good, bad)
            self.assertRaises(BadStanding, is_joined, (1, 4), bad, good)
            self.assertRaises(BadFloor, side, (1, 1), bad)
            self.assertRaises(BadStanding, side, (2, 2), bad)
            self.assertRaises(BadFloor, how_many, (1, 1), bad)
            self.assertRaises(BadStanding, how_many, (2, 2), bad)
            self.assertRaises(BadStanding, how_many, (1, 4), bad)


class HowManyTest(unittest.TestCase):
    def test_against_a_plain_count_on_small_floors(self):
        for floor in small_floors(8):
            for start in [ordered(floor), ordered(floor)[::-1], exchanged(ordered(floor), 0, 1)]:
                with self.subTest(floor=floor, start=start):
                    self.assertEqual(how_many(floor, start), len(all_that_come(floor, start)))

    def test_each_standing_of_the_smallest_floors(self):
        for floor in small_floors(4):
            for start in itertools.permutations(range(floor[0] * floor[1])):
                with self.subTest(floor=floor, start=start):
                    self.assertEqual(how_many(floor, start), len(all_that_come(floor, start)))

    def test_numbers(self):
        told = {
            (1, 2): 2, (1, 3): 3, (1, 4): 4, (2, 1): 2, (3, 1): 3, (4, 1): 4,
            (2, 2): 12, (2, 3): 360, (3, 2): 360, (2, 4): 20160, (4, 2): 20160, (3, 3): 181440,
            (3, 4): 239500800, (4, 3): 239500800, (4, 4): 10461394944000,
        }
        self.assertEqual(sorted(told), sorted(FLOORS))
        for floor in FLOORS:
            for standing in empties(floor):
                with self.subTest(floor=floor, standing=standing):
                    self.assertEqual(how_many(floor, standing), told[floor])
                    self.assertIs(type(how_many(floor, standing)), int)

    def test_both_sides_are_all_standings(self):
        for floor in BROAD:
            one = ordered(floor)
            both = how_many(floor, one) + how_many(floor, exchanged(one, 0, 1))
            self.assertEqual(both, math.factorial(floor[0] * floor[1]))


def exchanged_tiles(standing):
    """The standing with its first two tiles exchanged."""
    one, other = [place for place in range(len(standing)) if standing[place] != 0][:2]
    return exchanged(standing, one, other)


if __name__ == "__main__":
    unittest.main()
