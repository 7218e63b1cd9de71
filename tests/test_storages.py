"""Point 5: the least storage."""

import itertools
import random
import unittest

from damworks.storages import least_storage, shows_storage, storage_paper
from tests.helpers import BAD_DEMANDS, BAD_INFLOWS, KINDS, check_refused, check_shows, near_pairs

ROWS = ((1, 5), (3, 2))

BAD_FLAGS = tuple(value for value in KINDS if not isinstance(value, bool)) + ("True", (True,))


def is_enough(inflows, demands, turns, capacity):
    """Whether a dam of this capacity, full at first, gives all demands in so many turns."""
    held = capacity
    for inflow, demand in zip(inflows * turns, demands * turns):
        held = min(capacity, held + inflow - demand)
        if held < 0:
            return False
    return True


def storage_another_way(inflows, demands, is_round):
    """By trying one capacity behind the other."""
    if is_round and sum(demands) > sum(inflows):
        return None
    capacity = 0
    while not is_enough(inflows, demands, 4 if is_round else 1, capacity):
        capacity += 1
    return capacity


def right_papers(inflows, demands, is_round):
    """All values that are papers, by the words of the point."""
    storage = storage_another_way(inflows, demands, is_round)
    if not storage:
        return [None]
    months, right = len(inflows), []
    for first, count in itertools.product(range(months), range(1, months + 1)):
        row = [(first + step) % months for step in range(count)]
        if (is_round or first + count <= months) and sum(demands[k] - inflows[k] for k in row) == storage:
            right.append((first, count))
    return right


def many_rows():
    """Rows of inflows and demands of some lengths, many small ones and some random ones."""
    for numbers in itertools.product(range(4), repeat=4):
        yield numbers[:2], numbers[2:]
    dice = random.Random(11)
    for _ in range(150):
        months = dice.randint(1, 12)
        most = dice.choice((1, 3, 9, 40))
        inflows = tuple(dice.randint(0, most) for _ in range(months))
        yield inflows, tuple(dice.randint(0, most) for _ in range(months))
        yield inflows, tuple(dice.sample(inflows, months))


class StorageTest(unittest.TestCase):
    def test_examples(self):
        self.assertEqual(least_storage((1, 5), (3, 2), False), 2)
        self.assertIsNone(least_storage((1, 5), (3, 4), True))
        self.assertEqual(storage_paper((1, 5), (3, 2), True), (0, 1))

    def test_against_trying(self):
        for inflows, demands in many_rows():
            for is_round in (False, True):
                with self.subTest(inflows=inflows, demands=demands, is_round=is_round):
                    expected = storage_another_way(inflows, demands, is_round)
                    self.assertEqual(least_storage(inflows, demands, is_round), expected)
                    self.assertIn(
                        storage_paper(inflows, demands, is_round), right_papers(inflows, demands, is_round))

    def test_of_any_size(self):
        self.assertEqual(least_storage((0,) * 12, (1000,) * 12, False), 12000)
        self.assertEqual(storage_paper((0,) * 12, (1000,) * 12, False), (0, 12))
        self.assertIsNone(least_storage((0,) * 12, (1000,) * 12, True))

    def test_one_month(self):
        self.assertEqual([least_storage((2,), (5,), False), least_storage((5,), (5,), True)], [3, 0])
        self.assertIsNone(least_storage((2,), (5,), True))
        self.assertEqual(least_storage((0,), (0,), True), 0)

    def test_rows_that_go_round(self):
        self.assertEqual(least_storage((1, 9, 1), (3, 3, 3), False), 2)
        self.assertEqual(least_storage((1, 9, 1), (3, 3, 3), True), 4)
        self.assertEqual(storage_paper((1, 9, 1), (3, 3, 3), True), (2, 2))

    def test_sums_that_are_just_equal(self):
        self.assertEqual(least_storage((0, 6), (3, 3), True), 3)
        self.assertIsNone(least_storage((0, 5), (3, 3), True))

    def test_papers_of_none(self):
        self.assertIsNone(storage_paper((1, 5), (3, 4), True))
        self.assertIsNone(storage_paper((1, 5), (1, 5), False))
        self.assertIsNone(storage_paper((1, 5), (1, 5), True))

    def test_wrong_arguments(self):
        for function in (least_storage, storage_paper):
            args = ROWS + (True,)
            check_refused(self, function, args, 0, "BadInflows", BAD_INFLOWS)
            check_refused(self, function, args, 1, "BadDemands", BAD_DEMANDS)
            check_refused(self, function, args, 2, "BadFlag", BAD_FLAGS)
        args = ROWS + (False, None)
        check_refused(self, shows_storage, args, 0, "BadInflows", BAD_INFLOWS)
        check_refused(self, shows_storage, args, 1, "BadDemands", BAD_DEMANDS)
        check_refused(self, shows_storage, args, 2, "BadFlag", BAD_FLAGS)


class ShowsStorageTest(unittest.TestCase):
    def check_all(self, inflows, demands, is_round):
        right = right_papers(inflows, demands, is_round)
        sides = range(-1, len(inflows) + 2)
        others = list(itertools.product(sides, sides))
        for pair in right:
            others.extend(near_pairs(pair) if pair is not None else ())
        check_shows(self, shows_storage, (inflows, demands, is_round), right, others)

    def test_all_pairs(self):
        for inflows, demands in (
            ((1, 5), (3, 2)), ((1, 5), (3, 4)), ((1, 5), (1, 5)), ((2,), (5,)), ((1, 9, 1), (3, 3, 3)),
            ((0, 4, 0, 4), (2, 2, 2, 2)), ((5, 1, 1, 5, 0), (0, 3, 2, 1, 5)), ((0, 6), (3, 3)), ((0,), (1,)),
            ((1, 0, 4), (2, 0, 2)), ((0, 0), (1, 0)), ((0, 9), (1, 0)),
        ):
            for is_round in (False, True):
                self.check_all(inflows, demands, is_round)


if __name__ == "__main__":
    unittest.main()
