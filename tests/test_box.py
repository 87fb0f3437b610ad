import itertools
import random
import unittest

from slidefloor.box import Box
from slidefloor.errors import BadFloor, BadMove, BadNumber, BadStanding, NothingDone
from slidefloor.floors import ordered
from slidefloor.moves import moved, moves
from tests.helper import (
    BAD_FLOORS, BAD_STANDINGS, FLOORS, FOUR, OTHERS, WORDS, LikeAll, Pretender, drawn, empties,
    endless_list, way_there,
)

AGAINST = {"up": "down", "down": "up", "left": "right", "right": "left"}

GOOD = (1, 2, 3, 0)

# On the floor (2, 2) these can be done one behind the other.
RING = ["down", "right", "up", "left"]

NO_WORDS = [thing for thing in OTHERS if type(thing) is not str or thing != "up"] + [
    [], ["down"], ("down",), (), {"down": 1}, "Down", "DOWN", "d", " down", "down ", "down\n", "",
    "downdown", "down right", "north", b"down", 2, 3, -3, 10 ** 40, endless_list(), "-", "3",
]

# No tiles at all, whatever stands on the floor.
NO_TILES = [thing for thing in OTHERS if type(thing) is not int or thing < 1] + [
    0, -1, -2, -3, 16, 17, 10 ** 40, -10 ** 40, "3", "1", "-", "right", b"3", [3], (3,), {3}, {3: 3},
    [], (), endless_list(), 3.0, 3j, Pretender(int), LikeAll(), True, False, None,
]


class BoxCase(unittest.TestCase):
    def look(self, box):
        return (box.floor(), box.standing(), box.done())

    def check_refused(self, box, kind, ask, *handed):
        """It is refused so, and behind it the box is as before."""
        before = self.look(box)
        with self.assertRaises(kind) as caught:
            ask(*handed)
        self.assertIs(type(caught.exception), kind)
        self.assertEqual(self.look(box), before)


class NewBoxTest(BoxCase):
    def test_floor_standing_and_nothing_done(self):
        for floor in FLOORS:
            for standing in empties(floor):
                with self.subTest(floor=floor, standing=standing):
                    box = Box(floor, standing)
                    self.assertEqual(self.look(box), (floor, standing, []))
                    self.assertIs(type(box.floor()), tuple)
                    self.assertIs(type(box.standing()), tuple)
                    self.assertIs(type(box.done()), list)

    def test_refusals_in_their_order(self):
        for number, floor in enumerate(BAD_FLOORS):
            for standing in [GOOD, None, (1, 2, 3, 3), [1, 2, 3, 0], True]:
                with self.subTest(number=number, standing=standing):
                    self.assertRaises(BadFloor, Box, floor, standing)
        for number, standing in enumerate(BAD_STANDINGS):
            with self.subTest(number=number):
                self.assertRaises(BadStanding, Box, FOUR, standing)


class PushTest(BoxCase):
    def test_a_row_of_moves(self):
        box = Box(FOUR, GOOD)
        self.assertIsNone(box.push("down"))
        self.assertEqual(self.look(box), (FOUR, (1, 0, 3, 2), ["down"]))
        self.assertIsNone(box.push("right"))
        self.assertEqual(self.look(box), (FOUR, (0, 1, 3, 2), ["down", "right"]))
        self.assertIsNone(box.push("up"))
        self.assertEqual(self.look(box), (FOUR, (3, 1, 0, 2), ["down", "right", "up"]))
        self.assertIsNone(box.push("left"))
        self.assertEqual(self.look(box), (FOUR, (3, 1, 2, 0), RING))

    def test_each_move_at_each_place_of_each_floor(self):
        for floor in FLOORS:
            for place, standing in enumerate(empties(floor)):
                for word in WORDS:
                    with self.subTest(floor=floor, place=place, word=word):
                        box = Box(floor, standing)
                        if way_there(floor, place, word) is None:
                            self.check_refused(box, BadMove, box.push, word)
                        else:
                            self.assertIsNone(box.push(word))
                            then = moved(floor, standing, [word])
                            self.assertEqual(self.look(box), (floor, then, [word]))
                            self.assertEqual(box.back(), word)
                            self.assertEqual(self.look(box), (floor, standing, []))

    def test_what_is_no_move(self):
        box = Box(FOUR, GOOD)
        for words in [[], ["down"], ["down", "right"]]:
            for word in words[-1:]:
                box.push(word)
            for number, word in enumerate(NO_WORDS):
                with self.subTest(number=number, kind=type(word).__name__, done=words):
                    self.check_refused(box, BadMove, box.push, word)

    def test_what_can_not_be_done(self):
        box = Box(FOUR, GOOD)
        for done in RING * 2:
            for word in WORDS:
                if word not in moves(FOUR, box.standing()):
                    with self.subTest(done=box.done(), word=word):
                        self.check_refused(box, BadMove, box.push, word)
            box.push(done)

    def test_moves_against_each_other_are_both_done(self):
        box = Box(FOUR, GOOD)
        box.push("down")
        box.push("up")
        self.assertEqual(self.look(box), (FOUR, GOOD, ["down", "up"]))


class SlideTest(BoxCase):
    def test_examples(self):
        box = Box(FOUR, GOOD)
        self.assertEqual(box.slide(2), "down")
        self.assertEqual(box.slide(1), "right")
        self.assertEqual(self.look(box), (FOUR, (0, 1, 3, 2), ["down", "right"]))
        self.assertEqual(box.slide(3), "up")
        self.assertEqual(box.slide(2), "left")
        self.assertEqual(self.look(box), (FOUR, (3, 1, 2, 0), RING))

    def test_each_tile_at_each_place_of_each_floor(self):
        for floor in FLOORS:
            for place, standing in enumerate(empties(floor)):
                beside = {}
                for word in WORDS:
                    there = way_there(floor, place, word)
                    if there is not None:
                        beside[standing[there]] = word
                for tile in range(-2, len(standing) + 2):
                    with self.subTest(floor=floor, place=place, tile=tile):
                        box = Box(floor, standing)
                        if tile in beside:
                            word = beside[tile]
                            self.assertEqual(box.slide(tile), word)
                            then = moved(floor, standing, [word])
                            self.assertEqual(self.look(box), (floor, then, [word]))
                            self.assertEqual(box.back(), word)
                            self.assertEqual(self.look(box), (floor, standing, []))
                        else:
                            self.check_refused(box, BadNumber, box.slide, tile)

    def test_what_is_no_tile(self):
        # 1 stands beside the empty place, so True would go if it were a number.
        for floor, standing in [(FOUR, (2, 1, 3, 0)), ((2, 1), (1, 0)), ((3, 3), (5, 2, 4, 1, 0, 3, 8, 6, 7))]:
            box = Box(floor, standing)
            for number, tile in enumerate(NO_TILES):
                with self.subTest(floor=floor, number=number, kind=type(tile).__name__):
                    self.check_refused(box, BadNumber, box.slide, tile)
            self.assertIn(box.slide(1), WORDS)
            for number, tile in enumerate(NO_TILES):
                with self.subTest(floor=floor, number=number, kind=type(tile).__name__):
                    self.check_refused(box, BadNumber, box.slide, tile)

    def test_a_tile_around_the_edge_of_a_row_is_not_beside(self):
        box = Box((3, 2), (1, 2, 3, 0, 4, 5))
        self.check_refused(box, BadNumber, box.slide, 3)
        box = Box((3, 2), (1, 2, 0, 3, 4, 5))
        self.check_refused(box, BadNumber, box.slide, 3)

    def test_the_same_tile_goes_there_and_back(self):
        box = Box(FOUR, GOOD)
        self.assertEqual(box.slide(3), "right")
        self.assertEqual(box.slide(3), "left")
        self.assertEqual(self.look(box), (FOUR, GOOD, ["right", "left"]))


class BackTest(BoxCase):
    def test_the_last_one_first(self):
        box = Box(FOUR, GOOD)
        for word in RING:
            box.push(word)
        self.assertEqual(box.back(), "left")
        self.assertEqual(self.look(box), (FOUR, (3, 1, 0, 2), ["down", "right", "up"]))
        self.assertEqual(box.back(), "up")
        self.assertEqual(self.look(box), (FOUR, (0, 1, 3, 2), ["down", "right"]))
        self.assertEqual(box.back(), "right")
        self.assertEqual(box.back(), "down")
        self.assertEqual(self.look(box), (FOUR, GOOD, []))

    def test_a_new_box_has_nothing_to_take_back(self):
        for floor in FLOORS:
            box = Box(floor, ordered(floor))
            with self.subTest(floor=floor):
                self.check_refused(box, NothingDone, box.back)
                self.check_refused(box, NothingDone, box.back)

    def test_beyond_the_first_move(self):
        box = Box(FOUR, GOOD)
        box.push("down")
        box.slide(1)
        box.back()
        box.back()
        self.check_refused(box, NothingDone, box.back)
        self.check_refused(box, NothingDone, box.back)
        box.push("right")
        self.assertEqual(box.back(), "right")
        self.check_refused(box, NothingDone, box.back)

    def test_what_was_refused_is_not_taken_back(self):
        box = Box(FOUR, GOOD)
        box.push("down")
        self.check_refused(box, BadMove, box.push, "down")
        self.check_refused(box, BadNumber, box.slide, 3)
        self.assertEqual(box.back(), "down")
        self.check_refused(box, BadMove, box.push, "up")
        self.check_refused(box, NothingDone, box.back)

    def test_moves_behind_one_taken_back(self):
        box = Box(FOUR, GOOD)
        box.push("down")
        box.push("right")
        box.back()
        box.push("up")
        self.assertEqual(self.look(box), (FOUR, GOOD, ["down", "up"]))
        self.assertEqual([box.back(), box.back()], ["up", "down"])
        self.assertEqual(self.look(box), (FOUR, GOOD, []))


class DoneTest(BoxCase):
    def test_the_told_list_is_the_askers_own(self):
        box = Box(FOUR, GOOD)
        told = box.done()
        told.append("down")
        self.check_refused(box, NothingDone, box.back)
        box.push("down")
        box.slide(1)
        told = box.done()
        self.assertIsNot(told, box.done())
        told.clear()
        self.assertEqual(box.done(), ["down", "right"])
        kept = box.done()
        box.push("up")
        box.back()
        box.back()
        self.assertEqual(kept, ["down", "right"])
        self.assertEqual(box.done(), ["down"])
        self.assertEqual(box.back(), "down")

    def test_what_was_told_stays(self):
        box = Box(FOUR, GOOD)
        standing = box.standing()
        box.push("down")
        self.assertEqual(standing, GOOD)
        self.assertEqual(box.standing(), (1, 0, 3, 2))

    def test_the_moves_done_lead_to_the_standing(self):
        for floor in FLOORS:
            start = empties(floor)[len(empties(floor)) // 2]
            box = Box(floor, start)
            for step in range(30):
                can = moves(floor, box.standing())
                box.push(can[(step * step + step // 3) % len(can)])
                self.assertEqual(moved(floor, start, box.done()), box.standing())


class ManyBoxesTest(BoxCase):
    def test_two_from_one_standing(self):
        one = Box(FOUR, GOOD)
        other = Box(FOUR, GOOD)
        one.push("down")
        self.assertEqual(self.look(other), (FOUR, GOOD, []))
        self.check_refused(other, NothingDone, other.back)
        other.push("right")
        self.assertEqual(self.look(one), (FOUR, (1, 0, 3, 2), ["down"]))
        self.assertEqual(self.look(other), (FOUR, (1, 2, 0, 3), ["right"]))
        self.assertEqual(one.back(), "down")
        self.assertEqual(self.look(other), (FOUR, (1, 2, 0, 3), ["right"]))
        self.assertEqual(GOOD, (1, 2, 3, 0))

    def test_a_box_from_what_another_one_told(self):
        one = Box(FOUR, GOOD)
        one.push("down")
        other = Box(one.floor(), one.standing())
        self.assertEqual(self.look(other), (FOUR, (1, 0, 3, 2), []))
        other.push("right")
        self.assertEqual(self.look(other), (FOUR, (0, 1, 3, 2), ["right"]))
        self.assertEqual(self.look(one), (FOUR, (1, 0, 3, 2), ["down"]))

    def test_boxes_side_by_side_as_a_plain_list_of_standings_says(self):
        chance = random.Random(10)
        boxes = [Box(floor, standing) for floor in FLOORS for standing in drawn(floor, 2)]
        # Of each box the standings that it had, and the moves between them.
        told = [([box.standing()], []) for box in boxes]
        for _ in range(12000):
            number = chance.randrange(len(boxes))
            box = boxes[number]
            had, words = told[number]
            self.do_something(chance, box, had, words)
            self.assertEqual(box.standing(), had[-1])
            self.assertEqual(box.done(), words)
        for box, (had, words) in zip(boxes, told):
            self.assertEqual(self.look(box), (box.floor(), had[-1], words))
            while words:
                self.assertEqual(box.back(), words.pop())
                had.pop()
                self.assertEqual(box.standing(), had[-1])
            self.check_refused(box, NothingDone, box.back)

    def do_something(self, chance, box, had, words):
        can = moves(box.floor(), had[-1])
        thing = chance.choice(["push", "push", "slide", "back", "list"])
        if thing == "push":
            word = chance.choice(WORDS)
            if word not in can:
                self.check_refused(box, BadMove, box.push, word)
                return
            self.assertIsNone(box.push(word))
        elif thing == "slide":
            tile = chance.randrange(len(had[-1]))
            fitting = [word for word in can if had[-1].index(0) == moved(box.floor(), had[-1], [word]).index(tile)]
            if tile == 0 or not fitting:
                self.check_refused(box, BadNumber, box.slide, tile)
                return
            word = box.slide(tile)
            self.assertEqual([word], fitting)
        elif thing == "back":
            if not words:
                self.check_refused(box, NothingDone, box.back)
                return
            self.assertEqual(box.back(), words.pop())
            had.pop()
            return
        else:
            box.done().append("up")
            return
        had.append(moved(box.floor(), had[-1], [word]))
        words.append(word)


class OppositeMovesTest(BoxCase):
    def test_a_move_taken_back_is_as_the_opposite_move(self):
        for floor, place in itertools.product(FLOORS, range(16)):
            if place < floor[0] * floor[1]:
                standing = empties(floor)[place]
                for word in moves(floor, standing):
                    then = moved(floor, standing, [word])
                    self.assertEqual(moved(floor, then, [AGAINST[word]]), standing)
                    box = Box(floor, then)
                    box.push(AGAINST[word])
                    self.assertEqual(box.standing(), standing)
                    box.back()
                    self.assertEqual(box.standing(), then)


if __name__ == "__main__":
    unittest.main()
