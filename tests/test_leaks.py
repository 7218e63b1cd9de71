"""Point 11: leaking dams."""

import itertools
import random
import unittest
from fractions import Fraction

from damworks.leaks import leak_paper, leak_run, leak_yield, shows_leak
from damworks.yields import firm_yield
from tests.helpers import (
    BAD_DAMS, BAD_RATIOS, DAM, JUST_PLAN_DAMS, KINDS, NO_PLAN_DAMS, check_refused, check_shows, error_of, fraction,
    has_plan, near_pairs, ratios, some_dams, windows,
)

LITTLE = Fraction(1, 10 ** 9)
HALF = (1, 2)

BAD_LOSSES = KINDS + BAD_RATIOS + ((1, 1), (2, 1), (3, 2), (-1, 2), (1, 101), (100, 101), (-1, 100))
BAD_SIZES = tuple(value for value in KINDS if repr(value) != "(1, 2)") + BAD_RATIOS + (
    (-1, 1), (-1, 2), (1000001, 1), (1000001, 2), (1, 10001), (10003, 10001),
)
BAD_LOSSES = tuple(value for value in BAD_LOSSES if repr(value) != "(1, 2)")


def run_another_way(dam, loss, size):
    """What is held behind each month, as fractions, None if the size cannot be given."""
    capacity, held, end, inflows = dam
    found = []
    for inflow in inflows:
        held = held + inflow - size
        if held < 0:
            return None
        if held > capacity:
            held = Fraction(capacity)
        held = held - held * loss
        found.append(held)
    return found if held >= end else None


def left_behind(dam, loss, size, first, last):
    """What is left behind the last month of a window before its loss, nothing spilled in it."""
    capacity, start, _, inflows = dam
    held = start if first == 0 else capacity * (1 - loss)
    for month in range(first, last + 1):
        held = held + inflows[month] - size
        if month < last:
            held = held * (1 - loss)
    return held


def right_papers(dam, loss, size):
    """All values that are papers, by the words of the point and the leak yield."""
    if size is None:
        return [None]
    last_month = len(dam[3]) - 1
    return [
        (first, last) for first, last in windows(len(dam[3]))
        if left_behind(dam, loss, size, first, last) * (1 - loss) == (dam[2] if last == last_month else 0)
    ]


def some_leaks(many, seed):
    """Dams with losses."""
    dice = random.Random(seed)
    for dam in some_dams(many, seed):
        bottom = dice.choice((1, 2, 3, 10, 97, 100))
        loss = Fraction(dice.randint(0, bottom - 1), bottom)
        yield dam, loss, (loss.numerator, loss.denominator)


class LeakRunTest(unittest.TestCase):
    def test_example(self):
        self.assertEqual(leak_run(DAM, (1, 2), (2, 1)), ((3, 1), (5, 2)))

    def test_against_fractions(self):
        dice = random.Random(71)
        counts = {True: 0, False: 0}
        for dam, loss, ratio in some_leaks(1000, 71):
            size = Fraction(dice.randint(0, 12), dice.choice((1, 2, 7)))
            with self.subTest(dam=dam, loss=loss, size=size):
                expected = run_another_way(dam, loss, size)
                counts[expected is None] += 1
                found = leak_run(dam, ratio, (size.numerator, size.denominator))
                self.assertEqual(found, None if expected is None else ratios(expected))
        self.assertGreater(min(counts.values()), 200)

    def test_edges(self):
        self.assertEqual(leak_run((5, 5, 0, (0,)), (0, 1), (5, 1)), ((0, 1),))
        self.assertIsNone(leak_run((5, 5, 0, (0,)), (0, 1), (50001, 10000)))
        self.assertEqual(leak_run((5, 5, 0, (9,)), (1, 100), (0, 1)), ((99, 20),))
        self.assertEqual(leak_run((0, 0, 0, (9,)), (1, 2), (9, 1)), ((0, 1),))
        self.assertEqual(leak_run((9, 8, 4, (0,)), (1, 2), (0, 1)), ((4, 1),))
        self.assertIsNone(leak_run((9, 7, 4, (0,)), (1, 2), (0, 1)))
        self.assertIsNone(leak_run((9, 9, 9, (9,)), (1, 100), (0, 1)))
        self.assertIsNone(leak_run((9, 9, 0, (9,)), (1, 2), (1000000, 1)))
        thinned = leak_run((1000, 1000, 0, (0,) * 12), (99, 100), (0, 1))
        self.assertEqual(thinned[11], (1, 10 ** 21))


class LeakYieldTest(unittest.TestCase):
    def test_examples(self):
        self.assertEqual(leak_yield(DAM, (1, 2)), (16, 3))
        self.assertEqual(leak_paper(DAM, (1, 2)), (0, 1))

    def test_giving_the_yield_and_a_little_more(self):
        without = 0
        for dam, loss, ratio in some_leaks(700, 72):
            with self.subTest(dam=dam, loss=loss):
                found = leak_yield(dam, ratio)
                most = None if found is None else fraction(found)
                if most is None:
                    without += 1
                    self.assertIsNone(run_another_way(dam, loss, Fraction(0)))
                else:
                    self.assertGreaterEqual(most, 0)
                    self.assertIsNotNone(run_another_way(dam, loss, most))
                    self.assertIsNone(run_another_way(dam, loss, most + LITTLE))
                paper = leak_paper(dam, ratio)
                self.assertIn(paper, right_papers(dam, loss, most))
                self.assertIs(shows_leak(dam, ratio, paper), True)
        self.assertTrue(100 < without < 600)

    def test_a_loss_of_nothing(self):
        for dam in some_dams(200, 73):
            self.assertEqual(leak_yield(dam, (0, 1)), firm_yield(dam) if has_plan(dam) else None)

    def test_edges(self):
        self.assertEqual(leak_yield((0, 0, 0, (7,)), (1, 2)), (7, 1))
        self.assertEqual(leak_yield((0, 0, 0, (7, 5)), (1, 2)), (5, 1))
        self.assertEqual(leak_yield((10, 6, 0, (0, 0)), (1, 2)), (2, 1))
        # The end is the capacity less its loss, then more than it.
        self.assertEqual(leak_yield((10, 10, 5, (3,)), (1, 2)), (3, 1))
        self.assertEqual(leak_yield((10, 10, 6, (1000,)), (1, 2)), None)
        self.assertEqual(leak_paper((10, 10, 6, (1000,)), (1, 2)), None)
        self.assertEqual(leak_yield((10, 0, 5, (0, 10)), (1, 2)), (0, 1))
        self.assertEqual(leak_yield((10, 0, 5, (0, 9)), (1, 2)), None)
        self.assertEqual(leak_yield((1000, 1000, 1000, (1000,) * 12), (1, 100)), None)
        self.assertEqual(leak_yield((1000, 1000, 0, (1000,) * 12), (0, 1)), (3250, 3))
        self.assertIsNotNone(leak_yield((1000, 1000, 990, (1000,) * 12), (1, 100)))

    def test_there_is_no_error_without_a_plan(self):
        for dam in NO_PLAN_DAMS:
            for loss in ((0, 1), (1, 3)):
                with self.subTest(dam=dam, loss=loss):
                    self.assertIsNone(leak_run(dam, loss, (0, 1)))
                    self.assertIsNone(leak_yield(dam, loss))
                    self.assertIsNone(leak_paper(dam, loss))
                    self.assertIs(shows_leak(dam, loss, None), True)
                    self.assertIs(shows_leak(dam, loss, (0, 0)), False)
        for dam in JUST_PLAN_DAMS:
            self.assertEqual(leak_yield(dam, (0, 1)), (0, 1))

    def test_shows(self):
        for dam in (DAM, (0, 0, 0, (3, 0, 5)), (3, 1, 0, (0,)), (9, 1, 0, (0, 0, 0)), (5, 0, 4, (9, 0, 8)),
                    (4, 4, 2, (2, 2, 2, 2)), (10, 10, 5, (3, 8)), (10, 10, 6, (3, 9))) + JUST_PLAN_DAMS:
            for loss in ((0, 1), (1, 2), (1, 10)):
                found = leak_yield(dam, loss)
                right = right_papers(dam, Fraction(*loss), None if found is None else Fraction(*found))
                sides = range(-1, len(dam[3]) + 2)
                others = list(itertools.product(sides, sides))
                for pair in right:
                    others.extend(near_pairs(pair) if pair is not None else ())
                check_shows(self, shows_leak, (dam, loss), right, others)


class ArgumentsTest(unittest.TestCase):
    def test_wrong_arguments(self):
        calls = ((leak_yield, ()), (leak_paper, ()), (leak_run, ((2, 1),)), (shows_leak, ((0, 1),)))
        for function, args in calls:
            check_refused(self, function, (DAM, HALF) + args, 0, "BadDam", BAD_DAMS)
            check_refused(self, function, (DAM, HALF) + args, 1, "BadLoss", BAD_LOSSES)
            check_refused(self, function, (NO_PLAN_DAMS[0], HALF) + args, 1, "BadLoss", BAD_LOSSES)
        check_refused(self, leak_run, (DAM, HALF, (2, 1)), 2, "BadSize", BAD_SIZES)
        check_refused(self, leak_run, (NO_PLAN_DAMS[0], HALF, (2, 1)), 2, "BadSize", BAD_SIZES)

    def test_greatest_arguments(self):
        for loss in ((99, 100), (1, 100), (0, 1), (98, 99)):
            self.assertIsNone(error_of(leak_yield, DAM, loss))
        for size in ((1000000, 1), (1, 10000), (0, 1), (999999, 10000)):
            self.assertIsNone(error_of(leak_run, DAM, HALF, size))


if __name__ == "__main__":
    unittest.main()
