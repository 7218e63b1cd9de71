"""Point 24: two dams that give together."""

import itertools
import random
import unittest
from fractions import Fraction

from damworks.dams import levels
from damworks.joints import joint_paper, joint_plan, joint_yield, shows_joint
from damworks.yields import firm_yield
from tests.helpers import (
    BAD_DAMS, DAM, JUST_PLAN_DAMS, KINDS, NO_PLAN_DAMS, check_refused, check_shows, error_of, fraction, fractions,
    some_dams,
)

SMALL = (5, 2, 0, (1, 1))
FUNCTIONS = ((joint_yield, ()), (joint_plan, ()), (joint_paper, ()), (shows_joint, (None,)))


def sets_of_months(count):
    """All ascending tuples of months that are not empty."""
    return [months for size in range(1, count + 1) for months in itertools.combinations(range(count), size)]


def most_of_months(dam, months):
    """What a dam can give in some months at most, unit by unit, all that is held in each of them."""
    capacity, held, _, inflows = dam
    given = 0
    for month, inflow in enumerate(inflows):
        for _ in range(inflow):
            held += 1
        while held > 0 and (month in months or held > capacity):
            held -= 1
            if month in months:
                given += 1
    return given


def mean_of(one, other, months):
    """What both dams can give in some months, divided by their number."""
    return Fraction(most_of_months(one, months) + most_of_months(other, months), len(months))


def yield_another_way(one, other):
    """The joint yield by all sets of months."""
    return min(mean_of(one, other, months) for months in sets_of_months(len(one[3])))


def can_give(one, other, need):
    """Whether both dams can give so many units in each month, by all pairs of what they can hold."""
    pairs = {(one[1], other[1])}
    for inflows in zip(one[3], other[3]):
        after = set()
        for held in pairs:
            waters = (held[0] + inflows[0], held[1] + inflows[1])
            for part in range(need + 1):
                left = (waters[0] - part, waters[1] - need + part)
                if min(left) >= 0:
                    # To hold more is never worse here.
                    after.add((min(left[0], one[0]), min(left[1], other[0])))
        pairs = after
    return bool(pairs)


def some_pairs(many, seed):
    """Pairs of dams of equally many months."""
    dice = random.Random(seed)
    for one in some_dams(many, seed):
        if len(one[3]) <= 8:
            capacity = dice.choice((0, 1, 2, 5, 20, 1000))
            most = dice.choice((1, 3, 9, 30))
            inflows = tuple(dice.choice((0, dice.randint(0, most))) for _ in one[3])
            yield one, (capacity, dice.randint(0, capacity), dice.randint(0, capacity), inflows)


class JointTest(unittest.TestCase):
    def check_answers(self, one, other):
        """The plans give the yield, and no more can be given in the months of the paper; the yield is returned."""
        found = fraction(joint_yield(one, other))
        plans = joint_plan(one, other)
        self.assertEqual((type(plans), len(plans)), (tuple, 2))
        for (capacity, start, _, inflows), plan in zip((one, other), plans):
            levels((capacity, start, 0, inflows), plan)
        for month in zip(fractions(plans[0]), fractions(plans[1])):
            self.assertGreaterEqual(sum(month), found)
        months = joint_paper(one, other)
        self.assertIn(months, sets_of_months(len(one[3])))
        self.assertEqual(mean_of(one, other, months), found)
        self.assertIs(shows_joint(one, other, months), True)
        return found

    def test_examples(self):
        self.assertEqual(joint_yield(SMALL, SMALL), (4, 1))
        self.assertEqual(joint_paper(SMALL, (5, 0, 0, (0, 9))), (0,))
        self.assertEqual(self.check_answers(SMALL, SMALL), 4)
        self.assertEqual(self.check_answers(SMALL, (5, 0, 0, (0, 9))), 3)

    def test_against_all_sets_of_months(self):
        for one, other in some_pairs(400, 241):
            with self.subTest(one=one, other=other):
                self.assertEqual(self.check_answers(one, other), yield_another_way(one, other))

    def test_giving_the_yield_and_a_little_more(self):
        dice = random.Random(242)
        for _ in range(150):
            months = dice.randint(1, 4)
            one, other = [
                (capacity, dice.randint(0, capacity), dice.randint(0, capacity),
                 tuple(dice.randint(0, 3) for _ in range(months)))
                for capacity in (dice.randint(0, 3), dice.randint(0, 3))
            ]
            top, bottom = joint_yield(one, other)
            # All water in parts of the bottom: to give one part more is too much.
            parts = [
                (capacity * bottom, start * bottom, 0, tuple(inflow * bottom for inflow in inflows))
                for capacity, start, _, inflows in (one, other)
            ]
            with self.subTest(one=one, other=other):
                self.assertTrue(can_give(*parts, top))
                self.assertFalse(can_give(*parts, top + 1))

    def test_a_dam_that_gives_nothing(self):
        for capacity, start, _, inflows in some_dams(150, 243):
            if len(inflows) <= 8:
                dam, empty = (capacity, start, 0, inflows), (0, 0, 0, (0,) * len(inflows))
                for end in (0, capacity):
                    one = (capacity, start, end, inflows)
                    self.assertEqual(joint_yield(one, empty), firm_yield(dam))
                    self.assertEqual(joint_yield(empty, one), firm_yield(dam))

    def test_together_more_than_apart(self):
        one, other = (9, 0, 0, (9, 0, 0, 0)), (0, 0, 0, (0, 0, 4, 4))
        self.assertEqual(self.check_answers(one, other), Fraction(17, 4))
        self.assertEqual(self.check_answers((9, 0, 0, (10, 0)), (9, 0, 0, (0, 5))), Fraction(15, 2))
        self.assertEqual(self.check_answers((2, 0, 0, (10, 0)), (9, 0, 0, (0, 5))), 7)

    def test_edges(self):
        self.assertEqual(self.check_answers((0, 0, 0, (0,)), (0, 0, 0, (0,))), 0)
        self.assertEqual(self.check_answers((0, 0, 0, (7,)), (0, 0, 0, (5,))), 12)
        self.assertEqual(self.check_answers((3, 3, 0, (0,)), (4, 4, 0, (0,))), 7)
        self.assertEqual(self.check_answers((0, 0, 0, (7, 0)), (0, 0, 0, (5, 0))), 0)
        self.assertEqual(self.check_answers((9, 0, 0, (0, 7)), (9, 0, 0, (0, 7))), 0)
        full = (1000, 1000, 0, (1000,) * 8)
        self.assertEqual(self.check_answers(full, full), 2250)
        self.assertEqual(self.check_answers((1000, 997, 0, (0,) * 8), (1000, 1000, 0, (0,) * 8)), Fraction(1997, 8))
        self.assertEqual(self.check_answers((999, 0, 5, (997,) + (0,) * 7), (7, 0, 0, (0,) * 7 + (1000,))),
                         Fraction(997, 7))

    def test_ends_do_not_matter(self):
        for dam in NO_PLAN_DAMS + JUST_PLAN_DAMS:
            capacity, start, _, inflows = dam
            free = (capacity, start, 0, inflows)
            with self.subTest(dam):
                self.assertEqual(self.check_answers(dam, dam), self.check_answers(free, free))

    def test_shows(self):
        for one, other in (
            (SMALL, SMALL), (SMALL, (5, 0, 0, (0, 9))), ((0, 0, 0, (0,)), (0, 0, 0, (0,))), NO_PLAN_DAMS[:2],
            ((9, 0, 0, (9, 0, 0, 0)), (0, 0, 0, (0, 0, 4, 4))), ((0, 0, 0, (3, 3, 3)), (1, 0, 1, (2, 2, 2))),
            ((0, 0, 0, (3, 1, 3)), (0, 0, 0, (0, 2, 1))),
        ):
            count = len(one[3])
            best = yield_another_way(one, other)
            right = [months for months in sets_of_months(count) if mean_of(one, other, months) == best]
            others = [()]
            for size in range(1, count + 2):
                others.extend(itertools.product(range(-1, count + 1), repeat=size))
            for months in right[:3]:
                others.extend((
                    list(months), months + (months[-1],), months[::-1] + (0,), dict(enumerate(months)), str(months),
                    (str(months[0]),) + months[1:], (None,) + months, (bool(months[0]),) + months[1:], (months,),
                    months[0], set(months), months + (10 ** 30,), tuple((month, 1) for month in months),
                ))
            others = [value for value in others if repr(value) not in set(map(repr, right))]
            check_shows(self, shows_joint, (one, other), right, others)


class ArgumentsTest(unittest.TestCase):
    def test_wrong_arguments(self):
        for function, args in FUNCTIONS:
            check_refused(self, function, (DAM, SMALL) + args, 0, "BadDam", BAD_DAMS + KINDS)
            check_refused(self, function, (DAM, SMALL) + args, 1, "BadDam", BAD_DAMS + KINDS)
            check_refused(self, function, ((10, 5, 0, (1,) * 9), SMALL) + args, 1, "BadDam", BAD_DAMS)

    def test_unlike_numbers_of_months(self):
        for function, args in FUNCTIONS:
            for one, other in ((1, 2), (2, 1), (8, 9), (9, 8), (12, 1), (1, 12), (12, 11)):
                dams = [(5, 2, 0, (1,) * months) for months in (one, other)]
                with self.subTest(function=function.__name__, months=(one, other)):
                    self.assertEqual(error_of(function, *dams, *args), ("BadPair", {}))

    def test_nine_months(self):
        for function, args in FUNCTIONS:
            for months in (9, 12):
                for end in (0, 5):
                    dam = (5, 0, end, (0,) * months)
                    self.assertEqual(error_of(function, dam, dam, *args), ("TooMany", {"most": 8}))
            dam = (5, 0, 5, (0,) * 8)
            self.assertIsNone(error_of(function, dam, dam, *args))


if __name__ == "__main__":
    unittest.main()
