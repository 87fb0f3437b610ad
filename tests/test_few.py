import itertools
import unittest

from slidefloor.errors import BadFloor, BadStanding, TooMany
from slidefloor.few import farthest, fewest
from slidefloor.floors import need_standing, ordered
from slidefloor.moves import moved, moves
from slidefloor.sides import is_joined
from slidefloor.ways import way
from tests.helper import FLOORS, counts_from, drawn, empties, exchanged, lines_run

SMALL = [floor for floor in FLOORS if floor[0] * floor[1] <= 6]
SIX = [(3, 2), (2, 3)]
GREAT = [floor for floor in FLOORS if floor[0] * floor[1] > 6]
BAD = [None, (), (1, 2, 3, 3), [1, 2, 3, 0], (True, 2, 3, 0), "1 2 / 3 -"]


def standings_of(floor):
    return list(itertools.permutations(range(floor[0] * floor[1])))


def some_starts(floor):
    """All standings of the smallest floors, some of the greater ones."""
    if floor[0] * floor[1] <= 4:
        return standings_of(floor)
    return [ordered(floor), ordered(floor)[::-1]] + drawn(floor, 40)


class FewestTest(unittest.TestCase):
    def test_examples(self):
        self.assertEqual(fewest((2, 2), (1, 2, 3, 0), (1, 2, 0, 3)), 1)
        self.assertEqual(fewest((2, 2), (1, 2, 3, 0), (0, 1, 3, 2)), 2)
        self.assertEqual(fewest((2, 2), (1, 2, 3, 0), (0, 3, 2, 1)), 6)
        self.assertIsNone(fewest((2, 2), (1, 2, 3, 0), (2, 1, 3, 0)))
        self.assertEqual(fewest((4, 1), (1, 2, 3, 0), (0, 1, 2, 3)), 3)
        self.assertIsNone(fewest((4, 1), (1, 2, 3, 0), (2, 3, 1, 0)))
        self.assertEqual(fewest((1, 2), (1, 0), (0, 1)), 1)
        self.assertEqual(fewest((3, 2), (1, 2, 3, 4, 5, 0), (4, 5, 0, 1, 2, 3)), 21)

    def test_any_two_on_floors_of_at_most_four_places(self):
        for floor in SMALL:
            if floor[0] * floor[1] <= 4:
                for one in standings_of(floor):
                    counts = counts_from(floor, one)
                    for other in standings_of(floor):
                        with self.subTest(floor=floor, one=one, other=other):
                            self.assertEqual(fewest(floor, one, other), counts.get(other))

    def test_from_one_to_all_on_floors_of_six_places(self):
        # Which tiles stand where in the one changes no number, only its empty place does.
        for floor in SIX:
            for one in empties(floor) + [(3, 0, 1, 5, 2, 4)]:
                counts = counts_from(floor, one)
                for other in standings_of(floor):
                    with self.subTest(floor=floor, one=one, other=other):
                        self.assertEqual(fewest(floor, one, other), counts.get(other))
                        self.assertEqual(fewest(floor, other, one), counts.get(other))

    def test_between_drawn_ones_either_way_about(self):
        for floor in SIX:
            for one, other in zip(drawn(floor, 40, "one"), drawn(floor, 40, "other")):
                with self.subTest(floor=floor, one=one, other=other):
                    told = counts_from(floor, one).get(other)
                    self.assertEqual(fewest(floor, one, other), told)
                    self.assertEqual(fewest(floor, other, one), told)

    def test_none_just_where_they_are_not_joined(self):
        for floor in SMALL:
            one = ordered(floor)
            for other in empties(floor) + drawn(floor, 20):
                with self.subTest(floor=floor, other=other):
                    told = fewest(floor, one, other)
                    self.assertEqual(told is not None, is_joined(floor, one, other))
                    self.assertIn(type(told), [int, type(None)])

    def test_nought_from_each_to_itself(self):
        self.assertEqual(fewest((3, 2), (1, 2, 3, 4, 5, 0), (1, 2, 3, 4, 5, 0)), 0)
        for floor in SMALL:
            for standing in standings_of(floor):
                with self.subTest(floor=floor, standing=standing):
                    # Handed in once as the same object, once as another one alike.
                    for other in [standing, tuple(list(standing))]:
                        told = fewest(floor, standing, other)
                        self.assertEqual(told, 0)
                        self.assertIs(type(told), int)

    def test_one_to_each_that_is_a_move_away(self):
        self.assertEqual(fewest((3, 2), (1, 2, 3, 4, 5, 0), (1, 2, 3, 4, 0, 5)), 1)
        for floor in SMALL:
            for standing in standings_of(floor):
                for word in moves(floor, standing):
                    with self.subTest(floor=floor, standing=standing, word=word):
                        self.assertEqual(fewest(floor, standing, moved(floor, standing, [word])), 1)

    def test_as_many_one_way_as_back(self):
        for floor in SMALL:
            for one, other in zip(drawn(floor, 300, "one"), drawn(floor, 300, "other")):
                with self.subTest(floor=floor, one=one, other=other):
                    self.assertEqual(fewest(floor, one, other), fewest(floor, other, one))

    def test_none_between_the_two_sides(self):
        self.assertIsNone(fewest((3, 2), (1, 2, 3, 4, 5, 0), (2, 1, 3, 4, 5, 0)))
        for floor in SMALL:
            if 1 not in floor:
                for one in standings_of(floor):
                    # Two tiles exchanged, the empty place where it was: that is the other side.
                    places = [place for place, number in enumerate(one) if number != 0]
                    other = exchanged(one, places[0], places[-1])
                    with self.subTest(floor=floor, one=one, other=other):
                        self.assertIsNone(fewest(floor, one, other))

    def test_none_between_other_orders_of_a_line(self):
        for floor in SMALL:
            if 1 in floor:
                for one, other in itertools.product(standings_of(floor), repeat=2):
                    alike = [n for n in one if n] == [n for n in other if n]
                    with self.subTest(floor=floor, one=one, other=other):
                        away = abs(one.index(0) - other.index(0))
                        self.assertEqual(fewest(floor, one, other), away if alike else None)

    def test_no_way_has_fewer(self):
        for floor in SMALL:
            for one, other in zip(drawn(floor, 20, "one"), drawn(floor, 20, "other")):
                if is_joined(floor, one, other):
                    with self.subTest(floor=floor, one=one, other=other):
                        self.assertLessEqual(fewest(floor, one, other), len(way(floor, one, other)))


class FarthestTest(unittest.TestCase):
    def test_examples(self):
        self.assertEqual(farthest((2, 1), (1, 0)), (1, [(0, 1)]))
        self.assertEqual(farthest((1, 2), (0, 1)), (1, [(1, 0)]))
        self.assertEqual(farthest((3, 1), (1, 0, 2)), (1, [(0, 1, 2), (1, 2, 0)]))
        self.assertEqual(farthest((1, 4), (1, 2, 3, 0)), (3, [(0, 1, 2, 3)]))
        self.assertEqual(farthest((2, 2), (1, 2, 3, 0)), (6, [(0, 3, 2, 1)]))
        self.assertEqual(farthest((3, 2), (1, 2, 3, 4, 5, 0)), (21, [(4, 5, 0, 1, 2, 3)]))

    def test_against_a_plain_count(self):
        for floor in SMALL:
            for start in some_starts(floor):
                with self.subTest(floor=floor, start=start):
                    counts = counts_from(floor, start)
                    most = max(counts.values())
                    far = sorted(standing for standing in counts if counts[standing] == most)
                    self.assertEqual(farthest(floor, start), (most, far))

    def test_several_farthest_ones_rise(self):
        # Elsewhere on small floors there is only one.
        for floor in [(3, 1), (1, 3)]:
            self.assertEqual(farthest(floor, (1, 0, 2)), (1, [(0, 1, 2), (1, 2, 0)]))
            self.assertEqual(farthest(floor, (2, 0, 1)), (1, [(0, 2, 1), (2, 1, 0)]))

    def test_kinds(self):
        for floor in SMALL:
            for start in some_starts(floor)[:30]:
                with self.subTest(floor=floor, start=start):
                    told = farthest(floor, start)
                    self.assertIs(type(told), tuple)
                    self.assertEqual(len(told), 2)
                    self.assertIs(type(told[0]), int)
                    self.assertIs(type(told[1]), list)
                    for standing in told[1]:
                        self.assertIs(type(standing), tuple)
                        self.assertIsNone(need_standing(floor, standing))

    def test_the_told_list_is_the_askers_own(self):
        for floor in SMALL:
            start = empties(floor)[0]
            told = farthest(floor, start)
            kept = list(told[1])
            told[1].append(start)
            told[1].reverse()
            with self.subTest(floor=floor):
                self.assertEqual(farthest(floor, start), (told[0], kept))
                self.assertIsNot(farthest(floor, start)[1], farthest(floor, start)[1])


class EffortTest(unittest.TestCase):
    """Answers come soon: to go through all 360 standings by moves and moved takes 80,000 lines."""

    def test_fewest_to_itself_and_to_one_move_away(self):
        for floor in SIX:
            for one in empties(floor) + drawn(floor, 10):
                for other in [one] + [moved(floor, one, [word]) for word in moves(floor, one)]:
                    with self.subTest(floor=floor, one=one, other=other):
                        self.assertLess(lines_run(fewest, floor, one, other), 2000)

    def test_fewest_of_unjoined_ones(self):
        for floor in SIX:
            for one in empties(floor):
                for other in drawn(floor, 10):
                    if not is_joined(floor, one, other):
                        with self.subTest(floor=floor, one=one, other=other):
                            self.assertLess(lines_run(fewest, floor, one, other), 2000)

    def test_fewest_to_any_and_to_the_farthest(self):
        for floor in SIX:
            for one in empties(floor):
                for other in drawn(floor, 10) + farthest(floor, one)[1]:
                    with self.subTest(floor=floor, one=one, other=other):
                        self.assertLess(lines_run(fewest, floor, one, other), 10000)

    def test_farthest(self):
        for floor in SIX:
            for standing in empties(floor) + drawn(floor, 10):
                with self.subTest(floor=floor, standing=standing):
                    self.assertLess(lines_run(farthest, floor, standing), 20000)


class RefusalsTest(unittest.TestCase):
    def test_greater_floors(self):
        self.assertEqual(len(GREAT), 6)
        for floor in GREAT:
            one = ordered(floor)
            for other in [one, exchanged(one, 0, 1), one[::-1]]:
                with self.subTest(floor=floor, other=other):
                    self.assertRaises(TooMany, fewest, floor, one, other)
                    self.assertRaises(TooMany, fewest, floor, other, one)
                    self.assertRaises(TooMany, farthest, floor, other)

    def test_six_places_are_not_too_many(self):
        for floor in SIX:
            self.assertEqual(fewest(floor, ordered(floor), ordered(floor)), 0)
            self.assertEqual(farthest(floor, ordered(floor))[0], 21)

    def test_bad_standings_before_too_many(self):
        for floor in GREAT:
            good = ordered(floor)
            for bad in BAD + [list(good), good + (len(good),), good[:-1] + (1,), good[:-1] + (False,)]:
                with self.subTest(floor=floor, bad=bad):
                    self.assertRaises(BadStanding, fewest, floor, bad, good)
                    self.assertRaises(BadStanding, fewest, floor, good, bad)
                    self.assertRaises(BadStanding, fewest, floor, bad, bad)
                    self.assertRaises(BadStanding, farthest, floor, bad)

    def test_bad_floors_before_all_else(self):
        sixteen = ordered((4, 4))
        for floor in [(1, 1), (5, 4), (4, 5), [4, 4], (True, 8), None, "44", (4.0, 4)]:
            for standing in BAD + [sixteen, (1, 2, 3, 0)]:
                with self.subTest(floor=floor, standing=standing):
                    self.assertRaises(BadFloor, fewest, floor, standing, sixteen)
                    self.assertRaises(BadFloor, fewest, floor, sixteen, standing)
                    self.assertRaises(BadFloor, farthest, floor, standing)

    def test_bad_standings_of_small_floors(self):
        good = (1, 2, 3, 0)
        for floor in [(2, 2), (4, 1), (1, 4)]:
            for bad in BAD + [(1, 2, 0), (1, 2, 3, 4, 0)]:
                with self.subTest(floor=floor, bad=bad):
                    self.assertRaises(BadStanding, fewest, floor, bad, good)
                    self.assertRaises(BadStanding, fewest, floor, good, bad)
                    self.assertRaises(BadStanding, fewest, floor, bad, bad)
                    self.assertRaises(BadStanding, farthest, floor, bad)

    def test_bad_standings_of_six_places(self):
        # Each is beside a good one that it resembles: what is alike is looked at, too.
        good = (1, 2, 3, 4, 5, 0)
        resembling = [list(good), (True, 2, 3, 4, 5, 0), (1, 2, 3, 4, 5, False), (1.0, 2, 3, 4, 5, 0)]
        for floor in SIX:
            for bad in BAD + resembling + [(1, 2, 3, 4, 5, 5), (1, 2, 3, 4, 5, 6), good[:-1], good + (6,)]:
                with self.subTest(floor=floor, bad=bad):
                    self.assertRaises(BadStanding, fewest, floor, bad, good)
                    self.assertRaises(BadStanding, fewest, floor, good, bad)
                    self.assertRaises(BadStanding, fewest, floor, bad, bad)
                    self.assertRaises(BadStanding, farthest, floor, bad)


if __name__ == "__main__":
    unittest.main()
