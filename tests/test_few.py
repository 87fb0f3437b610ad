import itertools
import unittest

from slidefloor.errors import BadFloor, BadStanding, TooMany
from slidefloor.few import farthest, fewest
from slidefloor.floors import need_standing, ordered
from slidefloor.sides import is_joined
from slidefloor.ways import way
from tests.helper import FLOORS, counts_from, drawn, empties, exchanged

SMALL = [floor for floor in FLOORS if floor[0] * floor[1] <= 6]
GREAT = [floor for floor in FLOORS if floor[0] * floor[1] > 6]
BAD = [None, (), (1, 2, 3, 3), [1, 2, 3, 0], (True, 2, 3, 0), "1 2 / 3 -"]


def standings_of(floor):
    return list(itertools.permutations(range(floor[0] * floor[1])))


def some_starts(floor):
    """All standings of the smallest floors, some of the greater ones."""
    if floor[0] * floor[1] <= 4:
        return standings_of(floor)
    return [ordered(floor), ordered(floor)[::-1]] + drawn(floor, 40)


class FewestTest(unittest.TestCase):
    def test_examples(self):
        self.assertEqual(fewest((2, 2), (1, 2, 3, 0), (1, 2, 0, 3)), 1)
        self.assertEqual(fewest((2, 2), (1, 2, 3, 0), (0, 1, 3, 2)), 2)
        self.assertEqual(fewest((2, 2), (1, 2, 3, 0), (0, 3, 2, 1)), 6)
        self.assertIsNone(fewest((2, 2), (1, 2, 3, 0), (2, 1, 3, 0)))
        self.assertEqual(fewest((4, 1), (1, 2, 3, 0), (0, 1, 2, 3)), 3)
        self.assertIsNone(fewest((4, 1), (1, 2, 3, 0), (2, 3, 1, 0)))
        self.assertEqual(fewest((1, 2), (1, 0), (0, 1)), 1)
        self.assertEqual(fewest((3, 2), (1, 2, 3, 4, 5, 0), (4, 5, 0, 1, 2, 3)), 21)

    def test_any_two_on_floors_of_at_most_four_places(self):
        for floor in SMALL:
            if floor[0] * floor[1] <= 4:
                for one in standings_of(floor):
                    counts = counts_from(floor, one)
                    for other in standings_of(floor):
                        with self.subTest(floor=floor, one=one, other=other):
                            self.assertEqual(fewest(floor, one, other), counts.get(other))

    def test_from_one_to_all_on_floors_of_six_places(self):
        for floor in [(3, 2), (2, 3)]:
            one = (3, 0, 1, 5, 2, 4)
            counts = counts_from(floor, one)
            for other in standings_of(floor):
                with self.subTest(floor=floor, other=other):
                    self.assertEqual(fewest(floor, one, other), counts.get(other))

    def test_between_drawn_ones_either_way_about(self):
        for floor in [(3, 2), (2, 3)]:
            for one, other in zip(drawn(floor, 40, "one"), drawn(floor, 40, "other")):
                with self.subTest(floor=floor, one=one, other=other):
                    told = counts_from(floor, one).get(other)
                    self.assertEqual(fewest(floor, one, other), told)
                    self.assertEqual(fewest(floor, other, one), told)

    def test_none_just_where_they_are_not_joined(self):
        for floor in SMALL:
            one = ordered(floor)
            for other in empties(floor) + drawn(floor, 20):
                with self.subTest(floor=floor, other=other):
                    told = fewest(floor, one, other)
                    self.assertEqual(told is not None, is_joined(floor, one, other))
                    self.assertIn(type(told), [int, type(None)])

    def test_nought_from_each_to_itself(self):
        for floor in SMALL:
            for standing in some_starts(floor):
                with self.subTest(floor=floor, standing=standing):
                    told = fewest(floor, standing, standing)
                    self.assertEqual(told, 0)
                    self.assertIs(type(told), int)

    def test_no_way_has_fewer(self):
        for floor in SMALL:
            for one, other in zip(drawn(floor, 20, "one"), drawn(floor, 20, "other")):
                if is_joined(floor, one, other):
                    with self.subTest(floor=floor, one=one, other=other):
                        self.assertLessEqual(fewest(floor, one, other), len(way(floor, one, other)))


class FarthestTest(unittest.TestCase):
    def test_examples(self):
        self.assertEqual(farthest((2, 1), (1, 0)), (1, [(0, 1)]))
        self.assertEqual(farthest((1, 2), (0, 1)), (1, [(1, 0)]))
        self.assertEqual(farthest((3, 1), (1, 0, 2)), (1, [(0, 1, 2), (1, 2, 0)]))
        self.assertEqual(farthest((1, 4), (1, 2, 3, 0)), (3, [(0, 1, 2, 3)]))
        self.assertEqual(farthest((2, 2), (1, 2, 3, 0)), (6, [(0, 3, 2, 1)]))
        self.assertEqual(farthest((3, 2), (1, 2, 3, 4, 5, 0)), (21, [(4, 5, 0, 1, 2, 3)]))

    def test_against_a_plain_count(self):
        for floor in SMALL:
            for start in some_starts(floor):
                with self.subTest(floor=floor, start=start):
                    counts = counts_from(floor, start)
                    most = max(counts.values())
                    far = sorted(standing for standing in counts if counts[standing] == most)
                    self.assertEqual(farthest(floor, start), (most, far))

    def test_several_farthest_ones_rise(self):
        # Elsewhere on small floors there is only one.
        for floor in [(3, 1), (1, 3)]:
            self.assertEqual(farthest(floor, (1, 0, 2)), (1, [(0, 1, 2), (1, 2, 0)]))
            self.assertEqual(farthest(floor, (2, 0, 1)), (1, [(0, 2, 1), (2, 1, 0)]))

    def test_kinds(self):
        for floor in SMALL:
            for start in some_starts(floor)[:30]:
                with self.subTest(floor=floor, start=start):
                    told = farthest(floor, start)
                    self.assertIs(type(told), tuple)
                    self.assertEqual(len(told), 2)
                    self.assertIs(type(told[0]), int)
                    self.assertIs(type(told[1]), list)
                    for standing in told[1]:
                        self.assertIs(type(standing), tuple)
                        self.assertIsNone(need_standing(floor, standing))

    def test_the_told_list_is_the_askers_own(self):
        for floor in SMALL:
            start = empties(floor)[0]
            told = farthest(floor, start)
            kept = list(told[1])
            told[1].append(start)
            told[1].reverse()
            with self.subTest(floor=floor):
                self.assertEqual(farthest(floor, start), (told[0], kept))
                self.assertIsNot(farthest(floor, start)[1], farthest(floor, start)[1])


class RefusalsTest(unittest.TestCase):
    def test_greater_floors(self):
        self.assertEqual(len(GREAT), 6)
        for floor in GREAT:
            one = ordered(floor)
            for other in [one, exchanged(one, 0, 1), one[::-1]]:
                with self.subTest(floor=floor, other=other):
                    self.assertRaises(TooMany, fewest, floor, one, other)
                    self.assertRaises(TooMany, fewest, floor, other, one)
                    self.assertRaises(TooMany, farthest, floor, other)

    def test_six_places_are_not_too_many(self):
        for floor in [(3, 2), (2, 3)]:
            self.assertEqual(fewest(floor, ordered(floor), ordered(floor)), 0)
            self.assertEqual(farthest(floor, ordered(floor))[0], 21)

    def test_bad_standings_before_too_many(self):
        for floor in GREAT:
            good = ordered(floor)
            for bad in BAD + [list(good), good + (len(good),), good[:-1] + (1,), good[:-1] + (False,)]:
                with self.subTest(floor=floor, bad=bad):
                    self.assertRaises(BadStanding, fewest, floor, bad, good)
                    self.assertRaises(BadStanding, fewest, floor, good, bad)
                    self.assertRaises(BadStanding, fewest, floor, bad, bad)
                    self.assertRaises(BadStanding, farthest, floor, bad)

    def test_bad_floors_before_all_else(self):
        sixteen = ordered((4, 4))
        for floor in [(1, 1), (5, 4), (4, 5), [4, 4], (True, 8), None, "44", (4.0, 4)]:
            for standing in BAD + [sixteen, (1, 2, 3, 0)]:
                with self.subTest(floor=floor, standing=standing):
                    self.assertRaises(BadFloor, fewest, floor, standing, sixteen)
                    self.assertRaises(BadFloor, fewest, floor, sixteen, standing)
                    self.assertRaises(BadFloor, farthest, floor, standing)

    def test_bad_standings_of_small_floors(self):
        good = (1, 2, 3, 0)
        for floor in [(2, 2), (4, 1), (1, 4)]:
            for bad in BAD + [(1, 2, 0), (1, 2, 3, 4, 0)]:
                with self.subTest(floor=floor, bad=bad):
                    self.assertRaises(BadStanding, fewest, floor, bad, good)
                    self.assertRaises(BadStanding, fewest, floor, good, bad)
                    self.assertRaises(BadStanding, farthest, floor, bad)


if __name__ == "__main__":
    unittest.main()
