"""Point 27: rivers as texts."""

import itertools
import random
import re
import unittest

from damworks.rivertext import read_river, write_river
from tests.helpers import KINDS, check_refused, error_of
from tests.test_rivers import BAD_RIVERS, NO_PLAN_RIVERS, some_rivers

TEXT = "5 2 0 : 1 1 > 1 1 / 5 2 0 : 1 1 > - 0"
RIVER = (((5, 2, 0, (1, 1)), 1, 1), ((5, 2, 0, (1, 1)), None, 0))
THREE = "10 5 0 : 3 4 > 2 2 / 9 2 0 : 1 1000 > 2 0 / 0 0 0 : 0 0 > - 0"
ONE = "10 10 10 : 1 2 3 4 5 > - 0"


class Fault(Exception):
    """The place of a fault."""


class Reader:
    """A text read word by word, a word being a row of digits or another sign that is no space."""

    def __init__(self, text):
        self.words = [(word.group(), word.start()) for word in re.finditer(r"[0-9]+|[^0-9 ]", text)]
        self.words.append(("", len(text)))

    def take(self, *allowed):
        """The next word, which is one of those allowed or a number up to an allowed one, and its place."""
        word, place = self.words[0]
        is_right = word in allowed
        for most in allowed:
            if isinstance(most, int) and re.fullmatch("0|[1-9][0-9]{0,3}", word) and int(word) <= most:
                is_right = True
        if not is_right:
            raise Fault(place)
        if word:
            self.words.pop(0)
        return word, place

    def dam(self, months):
        """The next dam, with as many months as are given, if any are."""
        capacity = int(self.take(1000)[0])
        start, end = int(self.take(capacity)[0]), int(self.take(capacity)[0])
        self.take(":")
        inflows = [int(self.take(1000)[0])]
        while len(inflows) != months:
            word, _ = self.take(*([1000] * (months is not None or len(inflows) < 5) + [">"] * (months is None)))
            if word == ">":
                break
            inflows.append(int(word))
        else:
            self.take(">")
        return capacity, start, end, tuple(inflows)


def read_another_way(text):
    """The river of a text, or the place of its first fault."""
    reader = Reader(text)
    links, places, months = [], [], None
    try:
        while True:
            dam = reader.dam(months)
            months = len(dam[3])
            target, place = reader.take("-", 2)
            delay, _ = reader.take(0 if target == "-" else 2)
            links.append((dam, None if target == "-" else int(target), int(delay)))
            places.append(place)
            if reader.take(*(["/"] if len(links) < 3 else []), "")[0] == "":
                break
    except Fault as fault:
        return fault.args[0]
    for index, (_, target, _) in enumerate(links):
        if target is not None and (target <= index or target >= len(links)):
            return places[index]
    return tuple(links)


class WriteTest(unittest.TestCase):
    def test_examples(self):
        self.assertEqual(write_river(RIVER), TEXT)
        self.assertEqual(write_river((((5, 0, 0, (3, 4)), 1, 0), ((9, 2, 0, (1, 1)), None, 0))),
                         "5 0 0 : 3 4 > 1 0 / 9 2 0 : 1 1 > - 0")

    def test_edges(self):
        self.assertEqual(write_river((((0, 0, 0, (0,)), None, 0),)), "0 0 0 : 0 > - 0")
        self.assertEqual(write_river((((1000, 1000, 1000, (1000,) * 5), None, 0),)),
                         "1000 1000 1000 :" + " 1000" * 5 + " > - 0")
        dam = (1, 0, 1, (2,))
        self.assertEqual(write_river(((dam, 2, 2), (dam, 2, 1), (dam, None, 0))),
                         "1 0 1 : 2 > 2 2 / 1 0 1 : 2 > 2 1 / 1 0 1 : 2 > - 0")

    def test_rivers_without_plans(self):
        for river in NO_PLAN_RIVERS:
            self.assertEqual(read_river(write_river(river)), river)

    def test_wrong_arguments(self):
        for value, index in BAD_RIVERS:
            check_refused(self, write_river, (RIVER,), 0, "BadRiver", [value], index=index)
        for value in KINDS:
            self.assertEqual(error_of(write_river, value)[0], "BadRiver")


class ReadTest(unittest.TestCase):
    def check_text(self, text):
        """What a text gives or where its fault is, against the other way."""
        expected = read_another_way(text)
        if isinstance(expected, tuple):
            self.assertEqual(read_river(text), expected, text)
        else:
            self.assertEqual(error_of(read_river, text), ("InvalidText", {"place": expected}), text)

    def check_fault(self, text, place):
        with self.subTest(text):
            self.assertEqual(error_of(read_river, text), ("InvalidText", {"place": place}))
            self.check_text(text)

    def test_examples(self):
        self.assertEqual(read_river(TEXT), RIVER)
        self.assertEqual(read_river("5 0 0 : 3 4 > 1 0 / 9 2 0 : 1 1 > - 0"),
                         (((5, 0, 0, (3, 4)), 1, 0), ((9, 2, 0, (1, 1)), None, 0)))

    def test_there_and_back(self):
        for river, _ in some_rivers(300, 271):
            text = write_river(river)
            with self.subTest(text):
                self.assertEqual(read_river(text), river)
                self.assertEqual(write_river(read_river(text)), text)

    def test_spaces(self):
        self.assertEqual(read_river("5 2 0:1 1>1 1/5 2 0:1 1>-0"), RIVER)
        self.assertEqual(read_river("   " + TEXT.replace(" ", "    ") + "  "), RIVER)
        for text in (TEXT, THREE, ONE):
            self.assertEqual(read_river(re.sub(r" ?([:>/-]) ?", r"\1", text)), read_river(text))
        self.check_fault("5 2 0 : 1 1 >\t- 0", 13)
        self.check_fault("5 2 0 : 1 1 > - 0\n", 17)
        self.check_fault("5 2 0 : 1 1 > 11/5 2 0 : 1 1 > - 0", 14)

    def test_the_text_ends_too_early(self):
        for whole in (TEXT, THREE, ONE):
            for length in range(len(whole)):
                self.check_text(whole[:length])
                self.check_text(whole[:length] + "   ")
        for text in ("", "  ", "5 2 0 : 1 1", "5 2 0 : 1 1 ", "5 2 0 : 1 1 >", "5 2 0 : 1 1 > -", "5 2 0 : 1 1 > - ",
                     "5 2 0 : 1 1 > 1", TEXT[:17] + " /", TEXT[:17] + " / ", TEXT[:-1], TEXT[:-2], THREE[:-4]):
            self.check_fault(text, len(text))

    def test_leading_zeros_and_ranges(self):
        for text, place in (
            ("05 2 0 : 1 > - 0", 0), ("5 2 0 : 01 > - 0", 8), ("5 2 0 : 1 > - 00", 14), ("5 2 0 : 1 > 01 0", 12),
            ("5 2 0 : 1 > 1 01", 14), ("5 6 0 : 1 > - 0", 2), ("5 2 6 : 1 > - 0", 4), ("1001 2 0 : 1 > - 0", 0),
            ("5 2 0 : 1001 > - 0", 8), ("5 2 0 : 1 > 3 0", 12), ("5 2 0 : 1 > 10 0", 12), ("5 2 0 : 1 > 1 3", 14),
            ("5 2 0 : 1 > - 1", 14), ("5 2 0 : 1 > - 2", 14), ("5 2 0 : 1 > -1", 13), ("5 2 0 : 1 > - 3", 14),
            ("5 2 0 : 1 > " + "1" * 9999, 12), ("5 2 0 : 1 > 1 " + "1" * 9999, 14), ("9" * 9999, 0),
            ("5 2 0 : 1 > - " + "0" * 9999, 14), ("5 2 0 : 1 1 > 1 1 / 5 2 0 : 1 01 > - 0", 30),
        ):
            self.check_fault(text, place)

    def test_signs_that_are_not_allowed(self):
        for text, place in (
            ("x", 0), (">", 0), ("/ " + TEXT, 0), ("-5 2 0 : 1 > - 0", 0), ("5 2 0 > - 0", 6), ("5 2 0 : > - 0", 8),
            ("5 2 0 : 1 / 5 2 0 : 1 > - 0", 10), ("5 2 0 : 1 : 1 > - 0", 10), ("5 2 0 : 1 > > - 0", 12),
            ("5 2 0 : 1 > - - 0", 14), ("5 2 0 : 1 > - /", 14), ("5 2 0 : 1 > /", 12), ("5 2 0 : 1 > - 0 0", 16),
            ("5 2 0 : 1 > - 0 > - 0", 16), ("5 2 0 : 1 > - 0 -", 16), ("5 2 0 : 1 > 1 -", 14), ("5 2 0 : 1 > 1 / 1", 14),
            ("5 2 0 : 1 > 1 1 1", 16), ("5 2 0 : 1 > - 0 //", 17), ("5 2 0 : 1 > - 0 / x", 18),
            ("5 2 0 : 1 > \u0661 0", 12), ("5 2 0 : 1 > - 0\u00a0", 15), ("5 2 0 : 1, 1 > - 0", 9),
        ):
            self.check_fault(text, place)

    def test_a_sixth_inflow(self):
        self.check_fault("5 2 0 : 1 2 3 4 5 6 > - 0", 18)
        self.check_fault("5 2 0 : 1 2 3 4 5   0006 > - 0", 20)
        self.check_fault("5 2 0 : 1 2 3 4 5 x", 18)
        self.assertEqual(read_river("5 2 0 : 1 2 3 4 5 > - 0")[0][0][3], (1, 2, 3, 4, 5))

    def test_another_number_of_inflows(self):
        for text, place in (
            ("5 2 0 : 1 1 > 1 1 / 5 2 0 : 1 > - 0", 30), ("5 2 0 : 1 1 > 1 1 / 5 2 0 : 1   x", 32),
            ("5 2 0 : 1 1 > 1 1 / 5 2 0 : 1", 29), ("5 2 0 : 1 1 > 1 1 / 5 2 0 : 1  ", 31),
            ("5 2 0 : 1 1 > 1 1 / 5 2 0 : > - 0", 28), ("5 2 0 : 1 1 > 1 1 / 5 2 0 : 1 1 1 > - 0", 32),
            ("5 2 0 : 1 1 > 1 1 / 5 2 0 : 1 1  9999 > - 0", 33), ("5 2 0 : 1 > 1 1 / 5 2 0 : 1 007 > - 0", 28),
            ("5 2 0 : 1 1 1 1 1 > 1 1 / 5 2 0 : 1 1 1 1 1 1 > - 0", 44),
            ("5 2 0 : 1 > 1 1 / 5 2 0 : 1 > 2 1 / 5 2 0 : 1 1 > - 0", 46),
        ):
            self.check_fault(text, place)

    def test_a_fourth_dam(self):
        four = THREE + " / 0 0 0 : 0 0 > - 0"
        self.check_fault(four, len(THREE) + 1)
        self.check_fault(THREE + "/", len(THREE))
        self.check_fault(THREE.replace("> 2 0", "> 1 0") + "  / x", len(THREE) + 2)
        self.check_fault(THREE + " x", len(THREE) + 1)

    def test_targets(self):
        one = "5 2 0 : 1 > {} 0"
        self.check_fault(one.format(0), 12)
        self.check_fault(one.format(1), 12)
        self.check_fault(one.format("  2"), 14)
        two = "5 2 0 : 1 > {} 0 / 5 2 0 : 1 > {} 0"
        self.check_fault(two.format(0, "-"), 12)
        self.check_fault(two.format(2, "-"), 12)
        self.check_fault(two.format(1, 1), 30)
        self.check_fault(two.format(1, 0), 30)
        self.check_fault(two.format("-", 2), 30)
        self.check_fault(two.format(2, 1), 12)
        self.assertEqual([link[1] for link in read_river(two.format("-", "-"))], [None, None])
        three = two + " / 5 2 0 : 1 > {} 0"
        for targets in itertools.product("-0123", repeat=3):
            self.check_text(three.format(*targets))
        self.assertEqual([link[1] for link in read_river(three.format(2, 2, "-"))], [2, 2, None])
        self.check_fault(three.format(1, 2, 2), 48)

    def test_a_wrong_target_is_told_behind_all_else(self):
        two = "5 2 0 : 1 > {} 0 / 5 2 0 : 1 > {} 0"
        self.check_fault(two.format(0, "-") + " x", 34)
        self.check_fault(two.format(0, 3), 30)
        self.check_fault(two.format(3, 0), 12)
        self.check_fault("5 2 0 : 1 > 0 0 / 5 2 0 : 1 > - 1", 32)
        self.check_fault("5 2 0 : 1 > 0 0 / 5 2 0 : 1 > -", 31)
        self.check_fault("5 2 0 : 1 > 2 0 / 5 2 0 : 1 > - 0 / 5 2 0 : 1 > - 0 / 5", 52)
        self.check_fault("5 2 0 : 1 > 0 3", 14)

    def test_all_changes_of_a_sign(self):
        for text in (TEXT, THREE, ONE, "5 2 0:1>1 1/5 2 0:1>-0"):
            for place in range(len(text) + 1):
                self.check_text(text[:place] + text[place + 1:])
                for sign in "0129 :>/-x\n":
                    self.check_text(text[:place] + sign + text[place:])
                    self.check_text(text[:place] + sign + text[place + 1:])

    def test_many_changes(self):
        dice = random.Random(272)
        for river, _ in some_rivers(400, 273):
            signs = list(write_river(river))
            for _ in range(dice.randint(1, 4)):
                place = dice.randrange(len(signs))
                kind = dice.randint(0, 2)
                if kind == 0:
                    signs[place] = dice.choice("0123456789 :>/-")
                elif kind == 1:
                    signs.insert(place, dice.choice("0123456789 :>/-"))
                else:
                    del signs[place]
            self.check_text("".join(signs))

    def test_wrong_arguments(self):
        wrong = tuple(value for value in KINDS if not isinstance(value, str)) + (RIVER, [TEXT])
        check_refused(self, read_river, ("",), 0, "NotText", wrong)


if __name__ == "__main__":
    unittest.main()
