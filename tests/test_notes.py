import itertools
import re
import unittest

from slidefloor.errors import BadText
from slidefloor.floors import need_standing, ordered
from slidefloor.notes import standing_of, standing_text
from tests.helper import FLOORS, OTHERS, Pretender, drawn, empties

TOLD = {
    (2, 1): "1 -",
    (1, 2): "1 / -",
    (3, 1): "1 2 -",
    (1, 3): "1 / 2 / -",
    (4, 1): "1 2 3 -",
    (1, 4): "1 / 2 / 3 / -",
    (2, 2): "1 2 / 3 -",
    (3, 2): "1 2 3 / 4 5 -",
    (2, 3): "1 2 / 3 4 / 5 -",
    (4, 2): "1 2 3 4 / 5 6 7 -",
    (2, 4): "1 2 / 3 4 / 5 6 / 7 -",
    (3, 3): "1 2 3 / 4 5 6 / 7 8 -",
    (4, 3): "1 2 3 4 / 5 6 7 8 / 9 10 11 -",
    (3, 4): "1 2 3 / 4 5 6 / 7 8 9 / 10 11 -",
    (4, 4): "1 2 3 4 / 5 6 7 8 / 9 10 11 12 / 13 14 15 -",
}

SIGNS = [chr(number) for number in range(32, 127)] + ["\t", "\n", "\r", "\r\n"]

NUMBERS = "|".join(["-", *map(str, range(1, 16))])

# Each text from which the ones that are nearly right are made.
BASES = ["1 -", "- / 1", "1 2 / 3 -", "3 - 1 / 5 4 2", "- 5 4 / 1 2 3"] + [
    standing_text(floor, standing) for floor in FLOORS for standing in drawn(floor, 1)
]

BAD_TEXTS = [
    "", " ", "  ", "/", " / ", "-", "1", "0", "--", "- -", "- / -", "1 / 1", "1 1", "1 2", "1 / 2",
    "\n", "\t", "\n/\n", "1 2 3 4", "- - / - -", "1 2 / 3 4", "1 2 / - -", "1 1 / 2 -", "1 2 / 2 -",
    "1 2 / 3 0", "1 2 / 3 - -", "1 2 / - 3 -", "1 2 / 4 -", "1 2 / 3 16", "2 / 3 -", "1 2 / -",
    "0 -", "0 1", "1 0", "1 00", "1 / 0", "2 -", "16 -", "1 - / 0",
    " 1 2 / 3 -", "1 2 / 3 - ", "1  2 / 3 -", "1 2  / 3 -", "1 2 /  3 -", "1 2/ 3 -", "1 2 /3 -",
    "1 2/3 -", "1 2 / / 3 -", "1 2 // 3 -", "/ 1 2 / 3 -", " / 1 2 / 3 -", "1 2 / 3 - /",
    "1 2 / 3 - / ", "1 2\t/ 3 -", "1\t2 / 3 -", "1 2 /\t3 -", "1 2\n3 -", "1 2 \n 3 -",
    "1 2 / 3 -\n", "\n1 2 / 3 -", "1 2 / 3\n-", "1 2 / 3 -\r\n", "1 2 / 3 -\t", "\t1 2 / 3 -",
    "1 2 \\ 3 -", "1 2 | 3 -", "1 2, 3 -", "1,2 / 3,-", "12 / 3-", "12/3-", "1 2 3 -/",
    "01 2 / 3 -", "1 02 / 3 -", "1 2 / 03 -", "1 2 / 003 -", "00 1", "1 2 / 3 00", "1 2 / 3 -0",
    "+1 2 / 3 -", "1 +2 / 3 -", "1 2 / 3 +", "-1 2 / 3 -", "1 2 / -3 -", "1 2 / 3- -", "1 2 / 3 --",
    "1 2 / 3 +0", "1. 2 / 3 -", "1.0 2 / 3 -", "1 2 / 3e0 -", "1_0 2 / 3 -", "0x1 2 / 3 -",
    "one 2 / 3 -", "1 2 / 3 _", "1 2 / 3 *", "1 2 / 3 x", "1 2 / 3 .", "1 2 / 3 None",
    "(1, 2, 3, 0)", "[1 2 / 3 -]", "'1 2 / 3 -'", "1 2 / 3 -;", "1;2 / 3 -",
    "1 / 2 3 -", "1 2 3 / -", "1 2 / 3 4 5 -", "1 2 3 / 4 -", "1 2 3 / 4 5", "1 2 / 3 - / 4",
    "1 2 3 / 4 5 / 6 7 -", "1 2 / 3 4 / 5 - 6", "1 2 3 4 / 5 6 7 / 8 9 10 -",
    "1 2 3 4 -", "1 / 2 / 3 / 4 / -", "1 2 3 4 5 / 6 7 8 9 -", "1 2 / 3 4 / 5 6 / 7 8 / 9 -",
    "1 2 3 4 5 / 6 7 8 9 10 / 11 12 13 14 15 / 16 17 18 19 -",
    "1 2 3 4 / 5 6 7 8 / 9 10 11 12 / 13 14 15 16",
    "1 2 3 4 / 5 6 7 8 / 9 10 11 12 / 13 14 16 -",
    "1 2 3 4 / 5 6 7 8 / 9 10 11 12 / 13 14 15 15",
    "1 2 3 4 / 5 6 7 8 / 9 10 11 12 / 13 14 15 - / 16 17 18 19",
    "up", "north", "1 2 / 3 -1 2 / 3 -", "1 2 / 3 -1 2 / 3 - ",
    "1" * 5000 + " -", "9" * 100000, "- " * 50000 + "-", "1 / " * 50000 + "-", " " * 100000, "/ " * 50000,
    "\u0661 \u0662 / \u0663 -", "1 \u00b2 / 3 -", "1 2 / 3 \u2212", "1\u00a02 / 3 -", "1 2 \u2215 3 -",
]

NO_TEXTS = [thing for thing in OTHERS if type(thing) is not str] + [
    b"1 2 / 3 -", bytearray(b"1 2 / 3 -"), ["1 2 / 3 -"], ("1 2 / 3 -",), {"1 2 / 3 -": 1},
    ((2, 2), (1, 2, 3, 0)), (1, 2, 3, 0), [], (), iter("1 2 / 3 -"), Pretender(str), str,
]


def judged(text):
    """The floor and standing of a text, None where it has none; by a pattern."""
    if not re.fullmatch(f"(?:{NUMBERS})(?: (?:/ )?(?:{NUMBERS}))*", text):
        return None
    rows = [row.split() for row in text.split("/")]
    floor = (len(rows[0]), len(rows))
    numbers = [0 if word == "-" else int(word) for word in text.replace("/", "").split()]
    if floor not in FLOORS or any(len(row) != floor[0] for row in rows):
        return None
    return (floor, tuple(numbers)) if sorted(numbers) == list(range(len(numbers))) else None


class StandingTextTest(unittest.TestCase):
    def test_each_size(self):
        self.assertEqual(sorted(TOLD), sorted(FLOORS))
        for floor, text in TOLD.items():
            with self.subTest(floor=floor):
                self.assertEqual(standing_text(floor, ordered(floor)), text)
                self.assertIs(type(standing_text(floor, ordered(floor))), str)

    def test_the_empty_place_anywhere(self):
        self.assertEqual(standing_text((2, 2), (0, 3, 2, 1)), "- 3 / 2 1")
        self.assertEqual(standing_text((3, 2), (5, 0, 1, 4, 3, 2)), "5 - 1 / 4 3 2")
        self.assertEqual(standing_text((2, 3), (5, 0, 1, 4, 3, 2)), "5 - / 1 4 / 3 2")
        self.assertEqual(standing_text((1, 3), (0, 2, 1)), "- / 2 / 1")
        self.assertEqual(standing_text((3, 1), (2, 0, 1)), "2 - 1")
        text = "15 14 13 12 / 11 10 - 9 / 8 7 6 5 / 4 3 2 1"
        standing = (15, 14, 13, 12, 11, 10, 0, 9, 8, 7, 6, 5, 4, 3, 2, 1)
        self.assertEqual(standing_text((4, 4), standing), text)


class StandingOfTest(unittest.TestCase):
    def check_bad(self, text):
        with self.assertRaises(BadText) as caught:
            standing_of(text)
        self.assertIs(type(caught.exception), BadText)

    def test_each_size(self):
        for floor, text in TOLD.items():
            with self.subTest(floor=floor):
                told = standing_of(text)
                self.assertEqual(told, (floor, ordered(floor)))
                self.assertIs(type(told), tuple)
                self.assertIs(type(told[0]), tuple)
                self.assertIs(type(told[1]), tuple)
                self.assertEqual({type(number) for number in told[0] + told[1]}, {int})
                self.assertIsNone(need_standing(*told))

    def test_what_is_written_is_read_again(self):
        for floor in FLOORS:
            standings = empties(floor) + drawn(floor, 50)
            if floor[0] * floor[1] <= 4:
                standings = itertools.permutations(range(floor[0] * floor[1]))
            for standing in standings:
                with self.subTest(floor=floor, standing=standing):
                    self.assertEqual(standing_of(standing_text(floor, standing)), (floor, standing))

    def test_texts_that_tell_nothing(self):
        for text in BAD_TEXTS:
            with self.subTest(text=text[:60], length=len(text)):
                self.check_bad(text)

    def test_what_is_no_text(self):
        for number, text in enumerate(NO_TEXTS):
            with self.subTest(number=number, kind=type(text).__name__):
                self.check_bad(text)

    def check_as_judged(self, text):
        told = judged(text)
        if told is None:
            self.check_bad(text)
        else:
            self.assertEqual(standing_of(text), told, text)

    def test_one_sign_more_or_less_or_another_one(self):
        for text in BASES:
            for at in range(len(text) + 1):
                self.check_as_judged(text[:at] + text[at + 1:])
                self.check_as_judged(text[:at] + text[at:at + 1] + text[at:])
                for sign in SIGNS:
                    self.check_as_judged(text[:at] + sign + text[at:])
                    self.check_as_judged(text[:at] + sign + text[at + 1:])

    def test_two_signs_exchanged(self):
        for text in BASES:
            for one, other in itertools.combinations(range(len(text)), 2):
                signs = list(text)
                signs[one], signs[other] = signs[other], signs[one]
                self.check_as_judged("".join(signs))

    def test_rows_twice_left_out_or_exchanged(self):
        for text in BASES:
            rows = text.split(" / ")
            for at in range(len(rows)):
                self.check_bad(" / ".join(rows[:at] + [rows[at]] + rows[at:]))
                self.check_as_judged(" / ".join(rows[:at] + rows[at + 1:]))
                self.check_bad(" / ".join(rows[:at] + [""] + rows[at:]))
                self.check_bad(" / ".join(rows[:at] + ["16 17 18 19"] + rows[at:]))
            for turned in itertools.permutations(rows):
                self.assertIsNotNone(judged(" / ".join(turned)))
                self.check_as_judged(" / ".join(turned))

    def test_numbers_twice_left_out_exchanged_or_another_one(self):
        for text in BASES:
            words = text.split(" ")
            for at in range(len(words)):
                if words[at] != "/":
                    self.check_bad(" ".join(words[:at] + [words[at]] + words[at:]))
                self.check_as_judged(" ".join(words[:at] + words[at + 1:]))
                for word in ["-", "0", "1", "2", "15", "16", "00", "01", "+1", "-1", "", "/", "1.", "1" * 5000]:
                    self.check_as_judged(" ".join(words[:at] + [word] + words[at + 1:]))
                    self.check_as_judged(" ".join(words[:at] + [word] + words[at:]))
            for one, other in itertools.combinations(range(len(words)), 2):
                turned = list(words)
                turned[one], turned[other] = turned[other], turned[one]
                self.check_as_judged(" ".join(turned))

    def test_each_short_text(self):
        read = 0
        for length in range(7):
            for signs in itertools.product("12- /", repeat=length):
                text = "".join(signs)
                read += judged(text) is not None
                self.check_as_judged(text)
        # "1 -", "- 1", "1 / -", "- / 1", and the six of "1 2 -".
        self.assertEqual(read, 10)

    def test_nothing_is_kept_behind_a_refusal(self):
        self.check_bad("1 2 / 3 3")
        self.assertEqual(standing_of("1 2 / 3 -"), ((2, 2), (1, 2, 3, 0)))
        self.check_bad("1 2 / 3 3")


if __name__ == "__main__":
    unittest.main()
