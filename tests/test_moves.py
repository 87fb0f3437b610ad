import unittest

from slidefloor.errors import BadFloor, BadMove, BadStanding
from slidefloor.floors import need_standing, ordered
from slidefloor.moves import moved, moves
from tests.helper import (
    FLOORS, OTHERS, WORDS, LikeAll, Pretender, empties, endless_list, exchanged, way_there,
)

# Ordered, on the floor (3, 3), the empty place is the last one.
NINE = (3, 3)

NO_WORDS = [thing for thing in OTHERS if thing != "up" or isinstance(thing, LikeAll)] + [
    [], ["up"], ("up",), (), "Up", "UP", "u", " up", "up ", "up\n", "updown", "north", "forward",
    "upp", "lef", "rightt", "down,up", b"down", 2, -3, 10 ** 40, endless_list(), "-", "1 2 / 3 -",
]

NO_LISTS = OTHERS + [
    (), ("down",), ("down", "right"), "down", "down right", {"down": 1}, {"down"},
    frozenset({"down"}), iter(["down"]), (word for word in ["down"]), b"down", dict.fromkeys(["down"]),
]


class MovesTest(unittest.TestCase):
    def test_each_move_by_an_example(self):
        middle = (1, 2, 3, 4, 0, 5, 6, 7, 8)
        self.assertEqual(moves(NINE, middle), ["up", "down", "left", "right"])
        self.assertEqual(moved(NINE, middle, ["up"]), (1, 2, 3, 4, 7, 5, 6, 0, 8))
        self.assertEqual(moved(NINE, middle, ["down"]), (1, 0, 3, 4, 2, 5, 6, 7, 8))
        self.assertEqual(moved(NINE, middle, ["left"]), (1, 2, 3, 4, 5, 0, 6, 7, 8))
        self.assertEqual(moved(NINE, middle, ["right"]), (1, 2, 3, 0, 4, 5, 6, 7, 8))

    def test_wide_and_high_floors_by_examples(self):
        self.assertEqual(moves((3, 2), (1, 2, 3, 4, 0, 5)), ["down", "left", "right"])
        self.assertEqual(moved((3, 2), (1, 2, 3, 4, 0, 5), ["down"]), (1, 0, 3, 4, 2, 5))
        self.assertEqual(moves((2, 3), (1, 2, 0, 3, 4, 5)), ["up", "down", "left"])
        self.assertEqual(moved((2, 3), (1, 2, 0, 3, 4, 5), ["up"]), (1, 2, 4, 3, 0, 5))

    def test_rows_and_columns_by_examples(self):
        self.assertEqual(moves((2, 1), (1, 0)), ["right"])
        self.assertEqual(moves((2, 1), (0, 1)), ["left"])
        self.assertEqual(moves((1, 2), (1, 0)), ["down"])
        self.assertEqual(moves((1, 2), (0, 1)), ["up"])
        self.assertEqual(moves((3, 1), (2, 0, 1)), ["left", "right"])
        self.assertEqual(moves((1, 3), (2, 0, 1)), ["up", "down"])

    def test_the_order_at_each_place_of_each_floor(self):
        for floor in FLOORS:
            for place, standing in enumerate(empties(floor)):
                with self.subTest(floor=floor, place=place):
                    told = [word for word in WORDS if way_there(floor, place, word) is not None]
                    self.assertEqual(moves(floor, standing), told)
                    self.assertIs(type(moves(floor, standing)), list)

    def test_a_told_list_is_the_askers_own(self):
        for standing in empties(NINE):
            told = moves(NINE, standing)
            kept = list(told)
            told.reverse()
            told.append("up")
            del told[0]
            self.assertEqual(moves(NINE, standing), kept)
            self.assertIsNot(moves(NINE, standing), moves(NINE, standing))


class MovedTest(unittest.TestCase):
    def test_each_move_at_each_place_of_each_floor(self):
        for floor in FLOORS:
            for place, standing in enumerate(empties(floor)):
                for word in WORDS:
                    with self.subTest(floor=floor, place=place, word=word):
                        there = way_there(floor, place, word)
                        if there is None:
                            self.assertRaises(BadMove, moved, floor, standing, [word])
                        else:
                            then = moved(floor, standing, [word])
                            self.assertEqual(then, exchanged(standing, place, there))
                            self.assertIs(type(then), tuple)
                            self.assertIsNone(need_standing(floor, then))

    def test_a_row_of_moves(self):
        self.assertEqual(moved((2, 2), (1, 2, 3, 0), ["down", "right", "up", "left"]), (3, 1, 2, 0))
        self.assertEqual(moved((4, 1), (1, 2, 3, 0), ["right", "right", "right"]), (0, 1, 2, 3))
        self.assertEqual(moved((1, 4), (0, 1, 2, 3), ["up", "up", "down"]), (1, 0, 2, 3))
        then = moved((3, 2), (1, 2, 3, 4, 5, 0), ["right", "down", "left", "up"])
        self.assertEqual(then, (1, 3, 5, 4, 2, 0))

    def test_a_row_of_many_moves_comes_around(self):
        ring = ["down", "right", "up", "left"]
        start = (1, 2, 3, 0)
        self.assertEqual(moved((2, 2), start, ring * 3), start)
        self.assertEqual(moved((2, 2), start, ring * 900), start)
        self.assertEqual(moved((2, 2), start, ring * 901), moved((2, 2), start, ring))

    def test_many_moves_at_once_are_as_one_by_one(self):
        for floor in FLOORS:
            start = now = ordered(floor)
            words = []
            for step in range(200):
                can = moves(floor, now)
                word = can[(step * step + step // 3) % len(can)]
                words.append(word)
                now = moved(floor, now, [word])
            with self.subTest(floor=floor):
                self.assertEqual(moved(floor, start, words), now)

    def test_no_moves_at_all(self):
        for floor in FLOORS:
            for standing in empties(floor):
                with self.subTest(floor=floor, standing=standing):
                    self.assertEqual(moved(floor, standing, []), standing)
                    self.assertIs(type(moved(floor, standing, [])), tuple)

    def test_what_is_handed_in_stays(self):
        words = ["down", "right"]
        floor = (2, 2)
        standing = (1, 2, 3, 0)
        moved(floor, standing, words)
        self.assertEqual(words, ["down", "right"])
        self.assertEqual((floor, standing), ((2, 2), (1, 2, 3, 0)))
        words.append("up")
        self.assertEqual(moved(floor, standing, ["down", "right"]), (0, 1, 3, 2))

    def test_what_is_refused_changes_nothing(self):
        words = ["down", "right", "right"]
        standing = (1, 2, 3, 0)
        self.assertRaises(BadMove, moved, (2, 2), standing, words)
        self.assertEqual(words, ["down", "right", "right"])
        self.assertEqual(standing, (1, 2, 3, 0))
        self.assertEqual(moves((2, 2), standing), ["down", "right"])


class BadMoveTest(unittest.TestCase):
    def test_what_is_no_word_at_each_place_of_the_row(self):
        row = ["down", "right", "up", "left"]
        for number, word in enumerate(NO_WORDS):
            for at in range(len(row) + 1):
                with self.subTest(number=number, kind=type(word).__name__, at=at):
                    words = row[:at] + [word] + row[at:]
                    self.assertRaises(BadMove, moved, NINE, ordered(NINE), words)

    def test_what_is_no_word_instead_of_one(self):
        for number, word in enumerate(NO_WORDS):
            with self.subTest(number=number, kind=type(word).__name__):
                self.assertRaises(BadMove, moved, NINE, ordered(NINE), [word])

    def test_a_move_that_can_not_be_done_at_each_place_of_the_row(self):
        start = (1, 2, 3, 0)
        good = ["down", "right", "up", "left"]
        self.assertRaises(BadMove, moved, (2, 2), start, ["up"])
        self.assertRaises(BadMove, moved, (2, 2), start, ["left"])
        for at in range(len(good) + 1):
            can = moves((2, 2), moved((2, 2), start, good[:at]))
            for word in WORDS:
                if word not in can:
                    with self.subTest(at=at, word=word):
                        words = good[:at] + [word] + good[at:]
                        self.assertRaises(BadMove, moved, (2, 2), start, words)
                        self.assertRaises(BadMove, moved, (2, 2), start, good[:at] + [word])

    def test_no_tile_comes_around_the_edge_of_a_row(self):
        self.assertRaises(BadMove, moved, (3, 2), (1, 2, 3, 0, 4, 5), ["right"])
        self.assertRaises(BadMove, moved, (3, 2), (1, 2, 0, 3, 4, 5), ["left"])
        self.assertRaises(BadMove, moved, (3, 2), (1, 0, 2, 3, 4, 5), ["down"])
        self.assertRaises(BadMove, moved, (3, 2), (1, 2, 3, 4, 0, 5), ["up"])

    def test_what_is_no_list(self):
        for number, words in enumerate(NO_LISTS):
            with self.subTest(number=number, kind=type(words).__name__):
                self.assertRaises(BadMove, moved, (2, 2), (1, 2, 3, 0), words)

    def test_a_list_in_itself_and_lists_in_lists(self):
        for words in [endless_list(), [["down"]], [[]], [("down", "right")]]:
            self.assertRaises(BadMove, moved, (2, 2), (1, 2, 3, 0), words)

    def test_the_first_refusal_that_is_due(self):
        for words in [None, ["up"], ["north"], Pretender(list), []]:
            self.assertRaises(BadFloor, moved, (1, 1), (1, 2, 3, 3), words)
            self.assertRaises(BadFloor, moved, [2, 2], (1, 2, 3, 0), words)
            self.assertRaises(BadStanding, moved, (2, 2), (1, 2, 3, 3), words)
            self.assertRaises(BadStanding, moved, (2, 2), [1, 2, 3, 0], words)


if __name__ == "__main__":
    unittest.main()
