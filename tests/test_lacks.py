"""Point 7: lacks and failing months."""

import itertools
import unittest
from fractions import Fraction

from damworks.lacks import fewest_failures, lack_paper, least_lack, shows_lack, total_lack
from tests.helpers import (
    BAD_DAMS, BAD_DEMANDS, DAM, NO_PLAN_DAMS, check_refused, check_shows, fraction, gives, near_pairs, some_dams,
    some_demands, water_of_window, windows,
)

LITTLE = Fraction(1, 10 ** 9)
FUNCTIONS = (total_lack, least_lack, lack_paper, fewest_failures)


def total_another_way(dam, demands):
    """The least lack of all ways to give integers up to the demands."""
    ways = itertools.product(*(range(demand + 1) for demand in demands))
    return sum(demands) - max(sum(way) for way in ways if gives(dam, way, 0))


def less(demands, lack):
    """The demands less the lack, or 0 where that is negative."""
    return tuple(max(Fraction(0), demand - lack) for demand in demands)


def right_papers(dam, demands):
    """All values that are papers, by the words of the point and the least lack."""
    lack = fraction(least_lack(dam, demands))
    if lack == 0:
        return [None]
    return [
        (first, last) for first, last in windows(len(demands))
        if sum(less(demands, lack)[first:last + 1]) == water_of_window(dam, first, last, 0)
    ]


def failures_another_way(dam, demands):
    """The answer by all sets of months."""
    months = range(len(demands))
    sets = []
    for marks in itertools.product((False, True), repeat=len(demands)):
        if gives(dam, [0 if mark else demand for mark, demand in zip(marks, demands)], 0):
            failing = tuple(month for month in months if marks[month])
            sets.append((len(failing), failing))
    return min(sets)


def many_pairs(many, seed, most_months=12):
    """Dams with demands."""
    for number, dam in enumerate(some_dams(many, seed)):
        if len(dam[3]) <= most_months:
            yield dam, some_demands(dam, seed + number)


class TotalLackTest(unittest.TestCase):
    def test_example(self):
        self.assertEqual(total_lack(DAM, (9, 6)), 3)

    def test_against_all_ways(self):
        checked = 0
        for dam, demands in many_pairs(400, 31, 4):
            if sum(demands) <= 20:
                checked += 1
                with self.subTest(dam=dam, demands=demands):
                    self.assertEqual(total_lack(dam, demands), total_another_way(dam, demands))
        self.assertGreater(checked, 100)

    def test_edges(self):
        self.assertEqual(total_lack((0, 0, 0, (0,)), (1000,)), 1000)
        self.assertEqual(total_lack((0, 0, 0, (0,)), (0,)), 0)
        self.assertEqual(total_lack((1000, 1000, 1000, (0,) * 12), (1000,) * 12), 11000)
        self.assertEqual(total_lack((1, 0, 1, (9, 0)), (0, 9)), 8)


class LeastLackTest(unittest.TestCase):
    def test_examples(self):
        self.assertEqual(least_lack(DAM, (9, 6)), (3, 2))
        self.assertEqual(lack_paper(DAM, (9, 6)), (0, 1))

    def test_giving_with_the_lack_and_with_a_little_less(self):
        positive = 0
        for dam, demands in many_pairs(700, 32):
            with self.subTest(dam=dam, demands=demands):
                lack = fraction(least_lack(dam, demands))
                self.assertGreaterEqual(lack, 0)
                self.assertTrue(gives(dam, less(demands, lack), 0))
                self.assertIn(lack_paper(dam, demands), right_papers(dam, demands))
                if lack > 0:
                    positive += 1
                    self.assertFalse(gives(dam, less(demands, lack - LITTLE), 0))
        self.assertGreater(positive, 100)

    def test_edges(self):
        self.assertEqual(least_lack((0, 0, 0, (0,)), (0,)), (0, 1))
        self.assertEqual(least_lack((0, 0, 0, (0,)), (7,)), (7, 1))
        self.assertEqual(least_lack((9, 9, 9, (1,)), (10,)), (0, 1))
        self.assertEqual(least_lack((9, 9, 9, (1,)), (11,)), (1, 1))
        self.assertEqual(least_lack((10, 0, 10, (0, 0, 1)), (0, 0, 5)), (4, 1))
        self.assertEqual(least_lack((10, 6, 0, (0, 0, 0)), (1, 9, 3)), (3, 1))
        self.assertEqual(least_lack((10, 3, 0, (0, 0, 0)), (1, 4, 4)), (5, 2))
        self.assertEqual(least_lack((0, 0, 0, (0,) * 12), (1000,) * 12), (1000, 1))

    def test_papers_of_none(self):
        self.assertIsNone(lack_paper((9, 9, 9, (1,)), (10,)))
        self.assertIsNone(lack_paper((9, 9, 9, (1, 5)), (0, 0)))

    def test_shows(self):
        for dam, demands in (
            (DAM, (9, 6)), (DAM, (1, 3)), (DAM, (0, 0)), ((10, 6, 0, (0, 0, 0)), (1, 9, 3)), ((0, 0, 0, (0,)), (7,)),
            ((0, 0, 0, (2, 2, 2)), (3, 3, 3)), ((0, 0, 0, (0, 2, 0)), (0, 3, 1)), ((9, 9, 9, (1,)), (10,)),
            ((10, 3, 0, (0, 0, 0)), (1, 4, 4)), ((3, 0, 3, (0, 9, 0, 0)), (0, 8, 5, 5)),
        ):
            right = right_papers(dam, demands)
            sides = range(-1, len(demands) + 2)
            others = list(itertools.product(sides, sides))
            for pair in right:
                others.extend(near_pairs(pair) if pair is not None else ())
            check_shows(self, shows_lack, (dam, demands), right, others)


class FailuresTest(unittest.TestCase):
    def test_example(self):
        self.assertEqual(fewest_failures(DAM, (9, 6)), (1, (0,)))

    def test_against_all_sets(self):
        counts = set()
        for dam, demands in many_pairs(500, 33, 7):
            with self.subTest(dam=dam, demands=demands):
                expected = failures_another_way(dam, demands)
                counts.add(expected[0])
                self.assertEqual(fewest_failures(dam, demands), expected)
        self.assertTrue({0, 1, 2, 3} <= counts)

    def test_edges(self):
        self.assertEqual(fewest_failures((0, 0, 0, (0,)), (0,)), (0, ()))
        self.assertEqual(fewest_failures((0, 0, 0, (0,)), (1,)), (1, (0,)))
        self.assertEqual(fewest_failures((0, 0, 0, (0,) * 12), (1,) * 12), (12, tuple(range(12))))
        self.assertEqual(fewest_failures((12, 12, 12, (0,) * 12), (1,) * 12), (0, ()))
        self.assertEqual(fewest_failures((9, 6, 0, (0,) * 12), (1,) * 12), (6, (0, 1, 2, 3, 4, 5)))
        self.assertEqual(fewest_failures((9, 5, 0, (0, 0, 0)), (0, 4, 4)), (1, (1,)))
        self.assertEqual(fewest_failures((9, 5, 0, (0, 0, 0)), (5, 5, 5)), (2, (0, 1)))


class ArgumentsTest(unittest.TestCase):
    def test_wrong_arguments(self):
        for function in FUNCTIONS:
            check_refused(self, function, (DAM, (9, 6)), 0, "BadDam", BAD_DAMS)
            check_refused(self, function, (DAM, (9, 6)), 1, "BadDemands", BAD_DEMANDS)
        check_refused(self, shows_lack, (DAM, (9, 6), (0, 1)), 0, "BadDam", BAD_DAMS)
        check_refused(self, shows_lack, (DAM, (9, 6), (0, 1)), 1, "BadDemands", BAD_DEMANDS)

    def test_no_look_at_the_end(self):
        for capacity, start, end, inflows in NO_PLAN_DAMS:
            for function in FUNCTIONS:
                with self.subTest(function=function.__name__, dam=(capacity, start, end, inflows)):
                    found = function((capacity, start, end, inflows), (9, 6))
                    self.assertEqual(found, function((capacity, start, 0, inflows), (9, 6)))
            self.assertIs(shows_lack((capacity, start, end, inflows), (9, 6), None), False)
            self.assertIs(shows_lack((capacity, start, end, inflows), (0, 0), None), True)


if __name__ == "__main__":
    unittest.main()
