"""Point 28: books of months."""

import random
import unittest

from damworks.books import Book
from damworks.dams import run
from tests.helpers import KINDS, check_refused, error_of

BAD_CAPACITIES = tuple(value for value in KINDS if repr(value) not in ("0", "1", "7")) + (-5, 1002, "5", (5,), (5, 1))
BAD_FLOWS = BAD_CAPACITIES


def state_of(book):
    """All that a book tells."""
    return book.held(), book.months(), book.totals(), book.lowest(), book.highest()


class PlainBook:
    """The months added up by hand."""

    def __init__(self, capacity, start):
        self.capacity, self.start, self.flows = capacity, start, []

    def state(self):
        held, levels, months = self.start, [self.start], []
        for inflow, release in self.flows:
            held += inflow - release
            spilled = 0
            while held > self.capacity:
                held, spilled = held - 1, spilled + 1
            levels.append(held)
            months.append((inflow, release, spilled))
        sums = tuple(sum(month[place] for month in months) for place in range(3))
        return held, tuple(months), sums, min(levels), max(levels)


class BookTest(unittest.TestCase):
    def test_example(self):
        book = Book(5, 2)
        told = [book.month(9, 1), book.held(), book.months(), book.totals(), book.undo(), book.held()]
        self.assertEqual(told, [5, 5, ((9, 1, 5),), (9, 1, 5), None, 2])

    def test_against_months_added_up_by_hand(self):
        dice = random.Random(281)
        counts = {"kept": 0, "TooLittle": 0, "BadFlow": 0, "taken back": 0, "NothingToUndo": 0}
        for _ in range(150):
            capacity = dice.choice((0, 1, 5, 20))
            start = dice.randint(0, capacity)
            book, plain = Book(capacity, start), PlainBook(capacity, start)
            for _ in range(40):
                what = dice.randint(0, 9)
                if what < 3:
                    error = error_of(book.undo)
                    self.assertEqual(error, None if plain.flows else ("NothingToUndo", {}))
                    counts["NothingToUndo" if error else "taken back"] += 1
                    plain.flows = plain.flows[:-1]
                elif what < 4:
                    self.assertEqual(error_of(book.month, dice.choice(BAD_FLOWS), dice.choice((0, 1))), ("BadFlow", {}))
                    counts["BadFlow"] += 1
                else:
                    inflow, release = dice.choice((0, dice.randint(0, 9), 30)), dice.randint(0, 9)
                    held = plain.state()[0]
                    if release > held + inflow:
                        self.assertEqual(error_of(book.month, inflow, release), ("TooLittle", {}))
                        counts["TooLittle"] += 1
                    else:
                        plain.flows.append((inflow, release))
                        spilled = book.month(inflow, release)
                        self.assertEqual(spilled, plain.state()[1][-1][2])
                        counts["kept"] += 1
                self.assertEqual(state_of(book), plain.state())
        self.assertGreater(min(counts.values()), 100, counts)

    def test_against_run(self):
        dam = (9, 4, 0, (3, 0, 12, 7, 0, 0, 1))
        book = Book(9, 4)
        for inflow, (given, spilled, held) in zip(dam[3], run(dam, (1, 9, 2, 0, 5, 8, 0))):
            self.assertEqual(book.month(inflow, given), spilled)
            self.assertEqual(book.held(), held)

    def test_a_new_book(self):
        for capacity, start in ((0, 0), (1000, 1000), (1000, 0), (7, 3)):
            self.assertEqual(state_of(Book(capacity, start)), (start, (), (0, 0, 0), start, start))

    def test_a_release_of_just_what_is_there_and_one_more(self):
        book = Book(5, 2)
        self.assertEqual(error_of(book.month, 3, 6), ("TooLittle", {}))
        self.assertEqual(book.month(3, 5), 0)
        self.assertEqual(state_of(book), (0, ((3, 5, 0),), (3, 5, 0), 0, 2))
        self.assertEqual(error_of(book.month, 0, 1), ("TooLittle", {}))
        self.assertEqual(book.month(0, 0), 0)
        self.assertEqual(book.month(1000, 1000), 0)
        self.assertEqual(error_of(book.month, 999, 1000), ("TooLittle", {}))

    def test_what_is_above_the_capacity_is_spilled_behind_the_release(self):
        book = Book(5, 5)
        self.assertEqual(book.month(4, 4), 0)
        self.assertEqual(book.month(4, 3), 1)
        self.assertEqual(book.month(1000, 0), 1000)
        self.assertEqual(book.totals(), (1008, 7, 1001))
        empty = Book(0, 0)
        self.assertEqual([empty.month(7, 0), empty.month(7, 7), empty.month(7, 6)], [7, 0, 1])
        self.assertEqual(state_of(empty), (0, ((7, 0, 7), (7, 7, 0), (7, 6, 1)), (21, 13, 8), 0, 0))

    def test_lowest_and_highest_forget_what_is_taken_back(self):
        book = Book(9, 4)
        book.month(0, 4)
        book.month(9, 0)
        self.assertEqual((book.lowest(), book.highest()), (0, 9))
        self.assertIsNone(book.undo())
        self.assertEqual((book.lowest(), book.highest()), (0, 4))
        self.assertIsNone(book.undo())
        self.assertEqual((book.lowest(), book.highest()), (4, 4))

    def test_taking_back_more_than_was_kept(self):
        book = Book(9, 4)
        self.assertEqual(error_of(book.undo), ("NothingToUndo", {}))
        for _ in range(3):
            book.month(1, 0)
        for held in (6, 5, 4):
            self.assertIsNone(book.undo())
            self.assertEqual(book.held(), held)
        for _ in range(2):
            self.assertEqual(error_of(book.undo), ("NothingToUndo", {}))
            self.assertEqual(state_of(book), (4, (), (0, 0, 0), 4, 4))
        self.assertEqual(book.month(2, 1), 0)
        self.assertEqual(book.months(), ((2, 1, 0),))

    def test_many_months(self):
        book = Book(1000, 0)
        for _ in range(300):
            book.month(7, 3)
        self.assertEqual((book.held(), book.totals(), len(book.months())), (1000, (2100, 900, 200), 300))
        for _ in range(300):
            book.undo()
        self.assertEqual(state_of(book), (0, (), (0, 0, 0), 0, 0))

    def test_books_are_apart_and_answers_stay_as_they_are(self):
        one, other = Book(5, 2), Book(5, 2)
        one.month(1, 0)
        months = one.months()
        one.month(1, 0)
        self.assertEqual(months, ((1, 0, 0),))
        self.assertEqual(state_of(other), (2, (), (0, 0, 0), 2, 2))

    def test_wrong_arguments(self):
        check_refused(self, Book, (5, 2), 0, "BadCapacity", BAD_CAPACITIES)
        starts = tuple(value for value in BAD_CAPACITIES if value != 7) + (6, 7, -1)
        check_refused(self, Book, (5, 2), 1, "BadStart", starts)
        check_refused(self, Book, (0, 0), 1, "BadStart", (1, True, False, None))
        book = Book(5, 2)
        book.month(1, 0)
        before = state_of(book)
        check_refused(self, book.month, (1, 1), 0, "BadFlow", BAD_FLOWS)
        check_refused(self, book.month, (1, 1), 1, "BadFlow", BAD_FLOWS)
        # The wrong release comes before the lack of water.
        check_refused(self, book.month, (0, 1000), 0, "BadFlow", (1001, -1))
        self.assertEqual(error_of(book.month, 0, 1001), ("BadFlow", {}))
        self.assertEqual(error_of(book.month, 0, 1000), ("TooLittle", {}))
        self.assertEqual(state_of(book), before)


if __name__ == "__main__":
    unittest.main()
