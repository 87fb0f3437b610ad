import itertools
import unittest

from slidefloor.errors import BadFloor, BadStanding
from slidefloor.floors import ordered
from slidefloor.moves import moved
from slidefloor.sides import is_joined
from slidefloor.ways import empty_goes, groups, way
from tests.helper import BROAD, FLOORS, LINES, WORDS, drawn, empties, exchanged

# The document lets a way have so many moves.
MOST_MOVES = 1000

# README.md says that each way has fewer.
FEWER_MOVES = 200
SIXTEEN = (4, 4)

# By what is known of this floor 80 moves away from the ordered one, farther than which none is.
HARDEST = [
    (0, 12, 9, 13, 15, 11, 10, 14, 3, 7, 2, 5, 4, 8, 6, 1),
    (0, 12, 10, 13, 15, 11, 14, 9, 3, 7, 2, 5, 4, 8, 6, 1),
    (0, 11, 9, 13, 12, 15, 10, 14, 3, 7, 6, 2, 4, 8, 5, 1),
    (0, 15, 9, 13, 11, 12, 10, 14, 3, 7, 6, 2, 4, 8, 5, 1),
    (0, 12, 9, 13, 15, 11, 10, 14, 3, 7, 6, 2, 4, 8, 5, 1),
]


def turned_around(standing):
    """The standing seen from the other side of the floor, its tiles numbered from there."""
    return tuple((len(standing) - number) % len(standing) for number in reversed(standing))


def deepest(floor, filled, places):
    """How many moves it takes at most to fill these places beside the filled ones."""
    goes = empty_goes(floor, filled)
    free = [place for place in range(floor[0] * floor[1]) if place not in filled + places]
    layer = [(empty, *places) for empty in free]
    met = set(layer)
    depth = -1
    while layer:
        depth += 1
        following = []
        for now in layer:
            for _, there in goes[now[0]]:
                then = (there, *(now[0] if place == there else place for place in now[1:]))
                if then not in met:
                    met.add(then)
                    following.append(then)
        layer = following
    return depth


def most_moves(floor, empty):
    """No way to a standing with this empty place has more moves than this."""
    filled = []
    total = 0
    for group in groups(floor, empty):
        total += deepest(floor, filled, group)
        filled += group
    return total


class WayTest(unittest.TestCase):
    def check(self, floor, one, other):
        """What point 7 says of the way from the one to the other; the way."""
        told = way(floor, one, other)
        if not is_joined(floor, one, other):
            self.assertIsNone(told)
            return told
        self.assertIs(type(told), list)
        self.assertLessEqual(len(told), MOST_MOVES)
        now = one
        for word in told:
            self.assertIs(type(word), str)
            self.assertIn(word, WORDS)
            now = moved(floor, now, [word])
        self.assertEqual(now, other)
        self.assertEqual(moved(floor, one, told), other)
        return told

    def test_examples(self):
        self.assertEqual(way((2, 1), (1, 0), (0, 1)), ["right"])
        self.assertEqual(way((1, 2), (0, 1), (1, 0)), ["up"])
        self.assertIsNone(way((2, 2), (1, 2, 3, 0), (2, 1, 3, 0)))
        self.assertIsNone(way((3, 1), (1, 2, 0), (2, 1, 0)))
        self.assertIsNone(way((4, 1), (1, 2, 3, 0), (2, 3, 1, 0)))
        self.assertIsNone(way(SIXTEEN, ordered(SIXTEEN), exchanged(ordered(SIXTEEN), 13, 14)))

    def test_any_two_on_floors_of_at_most_four_places(self):
        for floor in FLOORS:
            if floor[0] * floor[1] <= 4:
                standings = list(itertools.permutations(range(floor[0] * floor[1])))
                for one, other in itertools.product(standings, repeat=2):
                    with self.subTest(floor=floor, one=one, other=other):
                        self.check(floor, one, other)

    def test_all_to_one_on_floors_of_six_places(self):
        for floor in [(3, 2), (2, 3)]:
            for other in [ordered(floor), (2, 0, 5, 1, 4, 3)]:
                for one in itertools.permutations(range(6)):
                    with self.subTest(floor=floor, one=one, other=other):
                        self.check(floor, one, other)

    def test_either_way_about_between_drawn_ones_of_each_floor(self):
        for floor in BROAD:
            joined = 0
            for one, other in zip(drawn(floor, 60, "one"), drawn(floor, 60, "other")):
                with self.subTest(floor=floor, one=one, other=other):
                    there = self.check(floor, one, other)
                    back = self.check(floor, other, one)
                    self.assertEqual(there is None, back is None)
                    joined += there is not None
            self.assertTrue(0 < joined < 60)

    def test_to_each_place_of_the_empty_one(self):
        for floor in FLOORS:
            for one, other in itertools.product(empties(floor), repeat=2):
                with self.subTest(floor=floor, one=one, other=other):
                    self.check(floor, one, other)
                    self.check(floor, one[::-1], other)

    def test_rows_and_columns(self):
        for floor in LINES:
            for one, other in itertools.product(empties(floor), repeat=2):
                with self.subTest(floor=floor, one=one, other=other):
                    self.assertIsNotNone(self.check(floor, one, other))

    def test_to_itself(self):
        for floor in FLOORS:
            for standing in empties(floor) + drawn(floor, 20):
                with self.subTest(floor=floor, standing=standing):
                    self.assertIsNotNone(self.check(floor, standing, standing))

    def test_many_drawn_ones_of_four_by_four(self):
        last = ordered(SIXTEEN)
        for standing in drawn(SIXTEEN, 300):
            with self.subTest(standing=standing):
                # One of the two is joined with it.
                self.check(SIXTEEN, standing, last)
                self.check(SIXTEEN, standing, exchanged(last, 0, 1))

    def test_the_ones_that_take_most_moves(self):
        last = ordered(SIXTEEN)
        for standing in HARDEST:
            for one, other in [(standing, last), (turned_around(standing), turned_around(last))]:
                with self.subTest(one=one, other=other):
                    self.assertIsNotNone(self.check(SIXTEEN, one, other))
                    self.assertIsNotNone(self.check(SIXTEEN, other, one))

    def test_no_way_at_all_has_too_many_moves(self):
        for floor in FLOORS:
            for empty in range(floor[0] * floor[1]):
                with self.subTest(floor=floor, empty=empty):
                    self.assertLess(most_moves(floor, empty), FEWER_MOVES)

    def test_the_same_way_each_time(self):
        for floor in FLOORS:
            for one, other in zip(drawn(floor, 12, "one"), drawn(floor, 12, "other")):
                with self.subTest(floor=floor, one=one, other=other):
                    told = way(floor, one, other)
                    kept = None if told is None else list(told)
                    self.assertEqual(way(floor, one, other), kept)
                    way(floor, other, one)
                    way(floor, one, one)
                    self.assertEqual(way(floor, one, other), kept)

    def test_a_told_list_is_the_askers_own(self):
        for floor in FLOORS:
            one, other = empties(floor)[0], empties(floor)[-1]
            for there in [one, other]:
                with self.subTest(floor=floor, there=there):
                    told = way(floor, one, there) or way(floor, one, exchanged(there, 0, 1)) or []
                    self.assertIsNot(told, way(floor, one, there))
                    first = self.check(floor, one, there)
                    if first is not None:
                        kept = list(first)
                        first.reverse()
                        first.append("north")
                        self.assertEqual(self.check(floor, one, there), kept)

    def test_refusals_in_the_order_of_the_arguments(self):
        good = (1, 2, 3, 0)
        for bad in [None, (1, 2, 3, 3), [1, 2, 3, 0], (True, 2, 3, 0), "1 2 / 3 -", (1, 2, 0)]:
            for one, other in [(good, bad), (bad, good), (bad, bad)]:
                with self.subTest(one=one, other=other):
                    self.assertRaises(BadFloor, way, (1, 1), one, other)
                    self.assertRaises(BadFloor, way, None, one, other)
                    self.assertRaises(BadStanding, way, (2, 2), one, other)
                    self.assertRaises(BadStanding, way, (4, 1), one, other)
                    self.assertRaises(BadStanding, way, (1, 4), one, other)


if __name__ == "__main__":
    unittest.main()
