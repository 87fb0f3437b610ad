import itertools
import unittest

from slidefloor.box import Box
from slidefloor.errors import BadFloor, BadStanding
from slidefloor.few import farthest, fewest
from slidefloor.floors import need_floor, need_standing, ordered
from slidefloor.moves import moved, moves
from slidefloor.notes import standing_text
from slidefloor.sides import how_many, is_joined, side
from slidefloor.ways import way
from tests.helper import BAD_FLOORS, BAD_STANDINGS, FLOORS, FOUR, empties

GOOD = (1, 2, 3, 0)

# Each function that takes a floor, with what is handed in behind it good.
TAKE_FLOOR = {
    "need_floor": lambda floor: need_floor(floor),
    "need_standing": lambda floor: need_standing(floor, GOOD),
    "ordered": lambda floor: ordered(floor),
    "moves": lambda floor: moves(floor, GOOD),
    "moved": lambda floor: moved(floor, GOOD, []),
    "side": lambda floor: side(floor, GOOD),
    "is_joined": lambda floor: is_joined(floor, GOOD, GOOD),
    "how_many": lambda floor: how_many(floor, GOOD),
    "way": lambda floor: way(floor, GOOD, GOOD),
    "fewest": lambda floor: fewest(floor, GOOD, GOOD),
    "farthest": lambda floor: farthest(floor, GOOD),
    "standing_text": lambda floor: standing_text(floor, GOOD),
    "Box": lambda floor: Box(floor, GOOD),
}

# Each place at which a function takes a standing, with all else good.
TAKE_STANDING = {
    "need_standing": lambda floor, standing: need_standing(floor, standing),
    "moves": lambda floor, standing: moves(floor, standing),
    "moved": lambda floor, standing: moved(floor, standing, []),
    "side": lambda floor, standing: side(floor, standing),
    "is_joined, one": lambda floor, standing: is_joined(floor, standing, GOOD),
    "is_joined, other": lambda floor, standing: is_joined(floor, GOOD, standing),
    "is_joined, both": lambda floor, standing: is_joined(floor, standing, standing),
    "how_many": lambda floor, standing: how_many(floor, standing),
    "way, one": lambda floor, standing: way(floor, standing, GOOD),
    "way, other": lambda floor, standing: way(floor, GOOD, standing),
    "way, both": lambda floor, standing: way(floor, standing, standing),
    "fewest, one": lambda floor, standing: fewest(floor, standing, GOOD),
    "fewest, other": lambda floor, standing: fewest(floor, GOOD, standing),
    "fewest, both": lambda floor, standing: fewest(floor, standing, standing),
    "farthest": lambda floor, standing: farthest(floor, standing),
    "standing_text": lambda floor, standing: standing_text(floor, standing),
    "Box": lambda floor, standing: Box(floor, standing),
}


class NeedFloorTest(unittest.TestCase):
    def test_each_size_is_let_by(self):
        self.assertEqual(len(FLOORS), 15)
        for floor in FLOORS:
            with self.subTest(floor=floor):
                self.assertIsNone(need_floor(floor))

    def test_one_place_is_refused(self):
        with self.assertRaises(BadFloor):
            need_floor((1, 1))

    def test_numbers_around_the_edges(self):
        for wide in range(-6, 12):
            for high in range(-6, 12):
                floor = (wide, high)
                with self.subTest(floor=floor):
                    if floor in FLOORS:
                        self.assertIsNone(need_floor(floor))
                    else:
                        self.assertRaises(BadFloor, need_floor, floor)

    def test_each_function_refuses_what_is_no_floor(self):
        for name, ask in TAKE_FLOOR.items():
            for number, floor in enumerate(BAD_FLOORS):
                with self.subTest(name=name, number=number, kind=type(floor).__name__):
                    self.assertRaises(BadFloor, ask, floor)


class NeedStandingTest(unittest.TestCase):
    def test_each_standing_of_small_floors_is_let_by(self):
        for floor in FLOORS:
            places = floor[0] * floor[1]
            if places <= 6:
                for standing in itertools.permutations(range(places)):
                    with self.subTest(floor=floor, standing=standing):
                        self.assertIsNone(need_standing(floor, standing))

    def test_standings_of_each_floor_are_let_by(self):
        for floor in FLOORS:
            for standing in empties(floor):
                with self.subTest(floor=floor, standing=standing):
                    self.assertIsNone(need_standing(floor, standing))
                    self.assertIsNone(need_standing(floor, standing[::-1]))

    def test_only_orders_of_the_numbers_are_standings(self):
        for standing in itertools.product(range(-1, 4), repeat=3):
            with self.subTest(standing=standing):
                if sorted(standing) == [0, 1, 2]:
                    self.assertIsNone(need_standing((3, 1), standing))
                else:
                    self.assertRaises(BadStanding, need_standing, (3, 1), standing)

    def test_each_function_refuses_what_is_no_standing(self):
        for name, ask in TAKE_STANDING.items():
            for number, standing in enumerate(BAD_STANDINGS):
                with self.subTest(name=name, number=number, kind=type(standing).__name__):
                    self.assertRaises(BadStanding, ask, FOUR, standing)

    def test_true_and_false_are_no_numbers_on_the_smallest_floors(self):
        for floor in [(1, 2), (2, 1)]:
            for standing in [(True, 0), (0, True), (1, False), (False, 1), (True, False)]:
                with self.subTest(floor=floor, standing=standing):
                    self.assertRaises(BadStanding, need_standing, floor, standing)

    def test_standings_of_floors_with_another_number_of_places(self):
        for floor in FLOORS:
            for other in FLOORS:
                if floor[0] * floor[1] != other[0] * other[1]:
                    with self.subTest(floor=floor, other=other):
                        self.assertRaises(BadStanding, need_standing, floor, ordered(other))

    def test_bad_floor_first_where_both_are_wrong(self):
        for name, ask in TAKE_STANDING.items():
            for floor in [None, (1, 1), (5, 1), [2, 2], (True, 2), "22"]:
                for standing in [None, (), [1, 2, 3, 0], (1, 2, 3, 3), (0,)]:
                    with self.subTest(name=name, floor=floor, standing=standing):
                        self.assertRaises(BadFloor, ask, floor, standing)


class OrderedTest(unittest.TestCase):
    def test_each_floor(self):
        told = {2: (1, 0), 3: (1, 2, 0), 4: (1, 2, 3, 0), 6: (1, 2, 3, 4, 5, 0)}
        told[8] = (1, 2, 3, 4, 5, 6, 7, 0)
        told[9] = (1, 2, 3, 4, 5, 6, 7, 8, 0)
        told[12] = (1, 2, 3, 4, 5, 6, 7, 8, 9, 10, 11, 0)
        told[16] = (1, 2, 3, 4, 5, 6, 7, 8, 9, 10, 11, 12, 13, 14, 15, 0)
        for floor in FLOORS:
            with self.subTest(floor=floor):
                standing = ordered(floor)
                self.assertIs(type(standing), tuple)
                self.assertEqual(standing, told[floor[0] * floor[1]])
                self.assertIsNone(need_standing(floor, standing))


if __name__ == "__main__":
    unittest.main()
