"""Point 4: dams as texts."""

import itertools
import re
import unittest

from damworks.damtext import read_dam, write_dam
from tests.helpers import BAD_DAMS, DAM, KINDS, check_refused, error_of

TWELVE = "1 2 3 4 5 6 7 8 9 10 11 12"


def place_another_way(text):
    """The place of the first fault of a text, None if there is none, by the rules of the point token by token."""
    numbers, colon = [], False
    for token in re.finditer(r"[0-9]+|[^0-9]", text):
        word, place = token.group(), token.start()
        if word == " ":
            continue
        if word == ":":
            if colon or len(numbers) != 3:
                return place
            colon = True
            continue
        if re.fullmatch("[0-9]+", word) is None or len(numbers) == 15 or (len(numbers) == 3 and not colon):
            return place
        most = numbers[0] if len(numbers) in (1, 2) else 1000
        if (word[0] == "0" and word != "0") or len(word) > 4 or int(word) > most:
            return place
        numbers.append(int(word))
    return len(text) if len(numbers) < 4 else None


class WriteTest(unittest.TestCase):
    def test_examples(self):
        self.assertEqual(write_dam(DAM), "10 5 0 : 3 4")
        self.assertEqual(write_dam((10, 5, 0, (3, 4, 0))), "10 5 0 : 3 4 0")

    def test_edges(self):
        self.assertEqual(write_dam((0, 0, 0, (0,))), "0 0 0 : 0")
        self.assertEqual(write_dam((1000, 1000, 1000, (1000,) * 12)), "1000 1000 1000 :" + " 1000" * 12)

    def test_a_dam_without_a_plan(self):
        self.assertEqual(write_dam((10, 0, 10, (3,))), "10 0 10 : 3")

    def test_wrong_arguments(self):
        check_refused(self, write_dam, (DAM,), 0, "BadDam", BAD_DAMS + KINDS)


class ReadTest(unittest.TestCase):
    def check_fault(self, text, place):
        with self.subTest(text):
            self.assertEqual(error_of(read_dam, text), ("InvalidText", {"place": place}))
            self.assertEqual(place_another_way(text), place)

    def test_examples(self):
        self.assertEqual(read_dam("10 5 0:3  4"), DAM)
        self.check_fault("10 11 0 : 3", 3)

    def test_what_was_written(self):
        for capacity, inflows in itertools.product((0, 1, 9, 10, 999, 1000), ((0,), (1000, 0), tuple(range(12)))):
            for start, end in ((0, 0), (capacity, 0), (0, capacity), (capacity // 2, capacity)):
                dam = (capacity, start, end, inflows)
                with self.subTest(dam):
                    self.assertEqual(read_dam(write_dam(dam)), dam)

    def test_spaces_anywhere(self):
        self.assertEqual(read_dam("   10   5 0   :   3  4    "), DAM)
        self.assertEqual(read_dam("10 5 0 :3 4"), DAM)
        self.assertEqual(read_dam("10 5 0: 3 4 "), DAM)
        self.assertEqual(read_dam("10 5 0:" + TWELVE)[3], tuple(range(1, 13)))

    def test_only_spaces_are_spaces(self):
        self.check_fault("10\t5 0 : 3", 2)
        self.check_fault("10 5 0 : 3\n", 10)
        self.check_fault("\u00a010 5 0 : 3", 0)

    def test_the_text_ends_too_early(self):
        for text in ("", "   ", "10", "10 ", "10 5", "10 5 0", "10 5 0  ", "10 5 0 :", "10 5 0 :   "):
            self.check_fault(text, len(text))

    def test_characters_that_are_not_allowed(self):
        for text, place in (
            (":", 0), ("x", 0), ("10:", 2), ("10 5 :", 5), ("10 5 0 3", 7), ("10 5 0 3 : 4", 7), ("10 5 0 : :", 9),
            ("10 5 0 : 3 : 4", 11), ("10 5 0 : 3,4", 10), ("-10 5 0 : 3", 0), ("10 -5 0 : 3", 3),
            ("10 +5 0 : 3", 3), ("10 5 0 : 3.", 10), ("10 5_0 : 3", 4), ("10 5 0 ; 3", 7), ("10 5 0 : 3 x", 11),
            ("10 5 0 : \u0663", 9), ("10 5 0 : 3\u00b2", 10), ("10 5 0 : " + TWELVE + " x", 9 + len(TWELVE) + 1),
        ):
            self.check_fault(text, place)

    def test_leading_zeros(self):
        for text, place in (
            ("010 5 0 : 3", 0), ("00 0 0 : 3", 0), ("10 05 0 : 3", 3), ("10 5 00 : 3", 5), ("10 5 0 : 03", 9),
            ("10 5 0 : 3 00", 11), ("10 5 0 : 3 000x", 11),
        ):
            self.check_fault(text, place)

    def test_numbers_out_of_their_range(self):
        for text, place in (
            ("1001 5 0 : 3", 0), ("  1001", 2), ("99999x", 0), ("10 11 0 : 3", 3), ("10 10 11 : 3", 6),
            ("0 1 0 : 3", 2), ("10 100 0 : 3", 3), ("10 5 0 : 1001", 9), ("10 5 0 : 3 1001 x", 11),
            ("10 5 0 : " + "9" * 10000, 9), ("9" * 10000, 0), ("10 " + "1" * 10000, 3),
        ):
            self.check_fault(text, place)

    def test_a_thirteenth_inflow(self):
        begin = "10 5 0 : " + TWELVE
        self.check_fault(begin + " 13", len(begin) + 1)
        self.check_fault(begin + "   7 x", len(begin) + 3)
        self.check_fault(begin + " 99999", len(begin) + 1)

    def test_all_short_texts(self):
        for length in range(8):
            for signs in itertools.product("01 :", repeat=length):
                text = "".join(signs)
                place = place_another_way(text)
                expected = None if place is None else ("InvalidText", {"place": place})
                self.assertEqual(error_of(read_dam, text), expected, text)

    def test_wrong_arguments(self):
        wrong = tuple(value for value in KINDS if not isinstance(value, str)) + (DAM, ["10 5 0 : 3"])
        check_refused(self, read_dam, ("",), 0, "NotText", wrong)


if __name__ == "__main__":
    unittest.main()
