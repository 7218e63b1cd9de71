"""Point 14: futures, holders, tree worths, plans and prices."""

import itertools
import random
import unittest
from fractions import Fraction

from damworks.futures import knowing_worth, shows_tree, shows_tree_prices, tree_plan, tree_prices, tree_worth
from tests.helpers import (
    BAD_RATIOS, KINDS, check_refused, check_shows, error_of, fraction, fractions, near_ratios, ratios, some_worths,
    worth_of,
)
from tests.test_worths import best_another_way as best_of_dam

ONE, HALF = (1, 1), (1, 2)
TREE = ((None, ONE, 1), (0, HALF, 0), (0, HALF, 1))
HOLDER = (5, 2, 0)
WORTHS = (((1, 1),), ((2, 8),), ((4, 2),))
FUNCTIONS = (
    (tree_worth, ()), (tree_plan, ()), (tree_prices, ()), (knowing_worth, ()), (shows_tree, (None,)),
    (shows_tree_prices, (None,)),
)

# Values that are no futures, each with the index of its error.
BAD_FUTURES = tuple((value, None) for value in KINDS if not isinstance(value, tuple) or not value) + (
    (list(TREE), None), ({0: TREE[0]}, None), ((), None), (((None, ONE, 1),) + ((0, (1, 10), 1),) * 10, None),
    ((None,), 0), ((True,), 0), ((0, 1), 0), ((None, ONE, 1), 0), (([None, ONE, 1],), 0), (((None, ONE),), 0),
    (((None, ONE, 1, 1),), 0), (((0, ONE, 1),), 0), (((None, HALF, 1),), 0), (((None, (2, 2), 1),), 0),
    (((None, 1, 1),), 0), (((None, (True, 1), 1),), 0), (((None, [1, 1], 1),), 0), (((None, ONE, True),), 0),
    (((None, ONE, -1),), 0), (((None, ONE, 1001),), 0), (((None, ONE, None),), 0), (((None, ONE, "1"),), 0),
    (((None, ONE, (1,)),), 0), (((False, ONE, 1),), 0), (((None, (2, 1), 1),), 0),
    ((TREE[0], (None, ONE, 1)), 1), ((TREE[0], (1, ONE, 1)), 1), ((TREE[0], (-1, ONE, 1)), 1),
    ((TREE[0], (2, ONE, 1), (0, ONE, 1)), 1), ((TREE[0], (False, ONE, 1)), 1), ((TREE[0], ("0", ONE, 1)), 1),
    ((TREE[0], ((0,), ONE, 1)), 1), ((TREE[0], [0, ONE, 1]), 1), ((TREE[0], (0, ONE)), 1), ((TREE[0], None), 1),
    ((TREE[0], (0, ONE, 1, 1)), 1), ((TREE[0], (0, ONE, True)), 1), ((TREE[0], (0, ONE, -1)), 1),
    ((TREE[0], (0, ONE, 1001)), 1), ((TREE[0], (0, (0, 1), 1), (0, ONE, 1)), 1), ((TREE[0], (0, (-1, 2), 1)), 1),
    ((TREE[0], (0, (1, 101), 1), (0, (100, 101), 1)), 1), ((TREE[0], TREE[1], TREE[2], (3, ONE, 1)), 3),
    # The chances of children that do not sum to 1 are told behind all bad triples.
    ((TREE[0], TREE[1]), 0), (TREE + (TREE[2],), 0), ((TREE[0], (0, (3, 2), 1)), 0), ((TREE[0], (0, (2, 1), 1)), 0),
    ((TREE[0], TREE[1], (0, (1, 3), 1)), 0), (TREE + ((1, HALF, 1),), 1), (TREE + ((2, HALF, 1),), 2),
    (TREE + ((2, HALF, 1), (1, HALF, 1)), 1), ((TREE[0], TREE[1], (1, HALF, 1)), 0),
    ((TREE[0], TREE[1], (1, HALF, 1), (2, (0, 1), 1)), 3), ((TREE[0], (0, ONE, 1), (1, (99, 100), 1)), 1),
    ((TREE[0], TREE[1], None), 2), ((TREE[0], (0, (51, 100), 1), (0, (1, 2), 1)), 0),
) + tuple(((TREE[0], (0, chance, 1), (0, HALF, 1)), 1) for chance in BAD_RATIOS if repr(chance) != "(1, 2)")

BAD_HOLDERS = KINDS + (
    [5, 2, 0], (5, 2), (5, 2, 0, 0), (5, 2, 0, (1,)), {5: 2}, (True, 0, 0), (1, True, 0), (1, 0, False), (-1, 0, 0),
    (1001, 0, 0), (5, -1, 0), (5, 6, 0), (5, 0, -1), (5, 0, 6), ("5", 2, 0), (5, None, 0), (5, 2, (0,)), ((5, 1), 2, 0),
)

# Values that are no worths for three futures, each with the index of its error.
BAD_TREE_WORTHS = tuple((value, None) for value in KINDS if not isinstance(value, tuple) or len(value) != 3) + (
    (list(WORTHS), None), (WORTHS[:2], None), (WORTHS + ((),), None), ({0: (), 1: (), 2: ()}, None),
    (((), (), ((3, 3), (2, 2), (1, 1))), 2), ((((3, 3), (2, 2), (1, 1)), (), None), 0), ((None, (), ()), 0),
    (((), [], ()), 1), (((), ([2, 8],), ()), 1), (((), ((2, 8, 1),), ()), 1), (((), ((2,),), ()), 1),
    (((), (), ((1, 2), (1, 2))), 2), (((), (), ((1, 2), (1, 3))), 2), (((), (), ((0, 2),)), 2), (((), (), ((2, 0),)), 2),
    (((), (), ((1001, 2),)), 2), (((), (), ((2, 1001),)), 2), (((), (), ((True, 2),)), 2), (((), (), ((2, True),)), 2),
    (((), (), (2, 8)), 2), (((), (), "28"), 2), (((), (), {}), 2), (((), (), ((2, (8, 1)),)), 2), ((0, 1, 2), 0),
)

NO_PLANS = (
    (TREE, (5, 2, 4)), (TREE, (5, 2, 5)), (((None, ONE, 2),), (5, 2, 5)), (((None, ONE, 0),), (5, 4, 5)),
    # Only one of the ways holds too little.
    (((None, ONE, 0), (0, HALF, 9), (0, HALF, 2)), (5, 2, 5)),
    (((None, ONE, 0), (0, HALF, 0), (0, HALF, 9), (1, ONE, 1), (2, ONE, 0)), (5, 0, 2)),
)
JUST_PLANS = (
    (TREE, (5, 2, 3)), (((None, ONE, 3),), (5, 2, 5)), (((None, ONE, 0),), (5, 5, 5)),
    (((None, ONE, 0), (0, HALF, 9), (0, HALF, 3)), (5, 2, 5)), (((None, ONE, 9), (0, HALF, 0), (0, HALF, 0)), (5, 5, 5)),
)


def children_of(futures, index):
    """The children of a future."""
    return [child for child, (parent, _, _) in enumerate(futures) if parent == index and child > 0]


def chances_of(futures):
    """The chance of each future."""
    chances = []
    for parent, chance, _ in futures:
        chances.append(Fraction(*chance) * (1 if parent is None else chances[parent]))
    return chances


def best_another_way(futures, holder, worths):
    """The greatest mean by all integers that can be held behind each future; None without releases."""
    capacity, start, end = holder
    best = {}
    for index in reversed(range(len(futures))):
        children = children_of(futures, index)
        inflow = futures[index][2]
        sold = [worth_of(worths[index], release) for release in range(capacity + inflow + 1)]
        for held in range(capacity + 1):
            means = []
            for kept in range(0 if children else end, min(capacity, held + inflow) + 1):
                behind = [best[child, kept] for child in children]
                if None not in behind:
                    weighed = [Fraction(*futures[child][1]) * mean for child, mean in zip(children, behind)]
                    means.append(sold[held + inflow - kept] + sum(weighed))
            best[index, held] = max(means, default=None)
    return best[0, start]


def knowing_another_way(futures, holder, worths):
    """The mean of what the ways are worth if they are known, less the greatest mean."""
    total = -best_another_way(futures, holder, worths)
    for index, chance in enumerate(chances_of(futures)):
        if not children_of(futures, index):
            way = [index]
            while futures[way[0]][0] is not None:
                way.insert(0, futures[way[0]][0])
            dam = holder + (tuple(futures[place][2] for place in way),)
            total += chance * best_of_dam(dam, [worths[place] for place in way])
    return total


def half_releases(futures, holder):
    """All releases of halves of integers, as fractions."""
    capacity, start, end = holder
    rows = [((), ())]
    for index, (parent, _, inflow) in enumerate(futures):
        least = 0 if children_of(futures, index) else 2 * end
        longer = []
        for releases, held in rows:
            water = (2 * start if parent is None else held[parent]) + 2 * inflow
            for kept in range(least, min(2 * capacity, water) + 1):
                longer.append((releases + (Fraction(water - kept, 2),), held + (kept,)))
        rows = longer
    return [releases for releases, _ in rows]


def are_releases(futures, holder, releases):
    """Whether fractions are releases, by the words of the point."""
    capacity, start, end = holder
    held = []
    for index, (parent, _, inflow) in enumerate(futures):
        held.append((start if parent is None else held[parent]) + inflow - releases[index])
        least = 0 if children_of(futures, index) else end
        if releases[index] < 0 or not least <= held[-1] <= capacity:
            return False
    return True


def mean_of(futures, worths, releases):
    """The mean of releases of halves of integers."""
    return sum(
        chance * worth_of(pairs, release) for chance, pairs, release in zip(chances_of(futures), worths, releases)
    )


def bound(futures, holder, worths, prices):
    """The bound of prices by the words of the point."""
    capacity, start, end = holder
    found = start * prices[0]
    for index, ((_, _, inflow), chance) in enumerate(zip(futures, chances_of(futures))):
        found += inflow * prices[index]
        found += sum(amount * max(0, chance * price - prices[index]) for amount, price in worths[index])
        children = children_of(futures, index)
        if children:
            found += capacity * max(0, sum(prices[child] for child in children) - prices[index])
        else:
            found -= end * prices[index]
    return found


def chances_for(many, dice):
    """So many chances that sum to 1."""
    bottom = dice.choice((many, 10, 97, 100))
    cuts = [0] + sorted(dice.sample(range(1, bottom), many - 1)) + [bottom]
    return ratios(Fraction(behind - before, bottom) for before, behind in zip(cuts, cuts[1:]))


def some_futures(many, seed, most_futures=10, most_capacity=6, most=6):
    """Futures with holders and worths."""
    dice = random.Random(seed)
    for _ in range(many):
        count = dice.randint(1, most_futures)
        back = dice.choice((1, 2, 9))
        parents = [None] + [dice.randint(max(0, index - back), index - 1) for index in range(1, count)]
        chances = {0: ONE}
        for parent in range(count):
            children = [index for index in range(count) if parents[index] == parent]
            if children:
                chances.update(zip(children, chances_for(len(children), dice)))
        capacity = dice.choice((0, 1, most_capacity, dice.randint(0, most_capacity)))
        ends = (0, 0, capacity, capacity, dice.randint(0, capacity))
        holder = (capacity, dice.choice((0, capacity, dice.randint(0, capacity))), dice.choice(ends))
        futures = tuple((parents[index], chances[index], dice.choice((0, dice.randint(0, most)))) for index in range(count))
        yield futures, holder, some_worths(count, dice, dice.choice((2, 5, 9)), 2)


class TreeTest(unittest.TestCase):
    def check_answers(self, futures, holder, worths, best):
        self.assertEqual(fraction(tree_worth(futures, holder, worths)), best)
        plan = tree_plan(futures, holder, worths)
        releases = fractions(plan)
        self.assertEqual(len(releases), len(futures))
        self.assertTrue(are_releases(futures, holder, releases))
        self.assertIs(shows_tree(futures, holder, worths, plan), True)
        if all((2 * release).denominator == 1 for release in releases):
            self.assertEqual(mean_of(futures, worths, releases), best)
        prices = fractions(tree_prices(futures, holder, worths))
        self.assertEqual(len(prices), len(futures))
        self.assertGreaterEqual(min(prices), 0)
        self.assertEqual(bound(futures, holder, worths, prices), best)
        self.assertIs(shows_tree_prices(futures, holder, worths, ratios(prices)), True)

    def test_examples(self):
        self.assertEqual(tree_worth(TREE, HOLDER, WORTHS), (12, 1))
        self.assertEqual(knowing_worth(TREE, HOLDER, WORTHS), (1, 2))
        self.check_answers(TREE, HOLDER, WORTHS, 12)

    def test_against_all_plans(self):
        without = 0
        for futures, holder, worths in some_futures(400, 101, 10, 3, 3):
            with self.subTest(futures=futures, holder=holder, worths=worths):
                best = best_another_way(futures, holder, worths)
                if best is None:
                    without += 1
                    for function, args in FUNCTIONS:
                        self.assertEqual(error_of(function, futures, holder, worths, *args), ("NoPlan", {}))
                else:
                    self.check_answers(futures, holder, worths, best)
                    knowing = fraction(knowing_worth(futures, holder, worths))
                    self.assertEqual(knowing, knowing_another_way(futures, holder, worths))
                    self.assertGreaterEqual(knowing, 0)
        self.assertTrue(30 < without < 250, without)

    def test_against_all_releases_of_halves(self):
        for futures, holder, worths in some_futures(200, 102, 4, 2, 2):
            rows = half_releases(futures, holder)
            if rows:
                with self.subTest(futures=futures, holder=holder, worths=worths):
                    best = max(mean_of(futures, worths, releases) for releases in rows)
                    self.assertEqual(fraction(tree_worth(futures, holder, worths)), best)

    def test_wide_numbers_by_plan_and_bound(self):
        for futures, holder, worths in some_futures(200, 103, 10, 1000, 1000):
            with self.subTest(futures=futures, holder=holder, worths=worths):
                if error_of(tree_worth, futures, holder, worths) is None:
                    self.check_answers(futures, holder, worths, fraction(tree_worth(futures, holder, worths)))

    def test_one_future(self):
        self.check_answers(((None, ONE, 3),), (5, 2, 1), (((2, 9), (1, 3)),), 21)
        self.check_answers(((None, ONE, 0),), (0, 0, 0), ((),), 0)
        self.check_answers(((None, ONE, 1000),), (0, 0, 0), (((1000, 1000),),), 10 ** 6)
        self.assertEqual(knowing_worth(((None, ONE, 3),), (5, 2, 1), (((2, 9), (1, 3)),)), (0, 1))

    def test_futures_of_one_way(self):
        dice = random.Random(104)
        for _ in range(50):
            inflows = tuple(dice.randint(0, 5) for _ in range(10))
            futures = tuple((index - 1 if index else None, ONE, inflow) for index, inflow in enumerate(inflows))
            worths = some_worths(10, dice, 6, 2)
            holder = (4, 2, dice.randint(0, 4))
            best = best_of_dam(holder + (inflows,), worths)
            if best is not None:
                self.check_answers(futures, holder, worths, best)
                self.assertEqual(knowing_worth(futures, holder, worths), (0, 1))

    def test_unlike_chances(self):
        futures = ((None, ONE, 4), (0, (1, 100), 0), (0, (99, 100), 0))
        worths = (((9, 5),), ((4, 400),), ())
        self.check_answers(futures, (4, 0, 0), worths, 20)
        self.assertEqual(knowing_worth(futures, (4, 0, 0), worths), (79, 5))
        self.check_answers(futures, (4, 0, 0), (((9, 3),), ((4, 400),), ()), 16)
        self.check_answers(((None, ONE, 4),) + ((0, (1, 9), 0),) * 9, (4, 0, 0), ((),) + (((4, 9),),) * 9, 36)

    def test_holders_that_are_always_full_or_empty(self):
        worths = (((1, 1),), ((2, 8),), ((4, 2),))
        self.check_answers(TREE, (0, 0, 0), worths, 1 + Fraction(1, 2) * 2)
        futures = ((None, ONE, 0), (0, HALF, 0), (0, HALF, 0))
        self.check_answers(futures, (5, 5, 5), worths, 0)
        self.check_answers(futures, (5, 0, 0), worths, 0)
        self.check_answers(((None, ONE, 9), (0, HALF, 9), (0, HALF, 9)), (0, 0, 0), worths, 1 + 8 + 4)

    def test_an_end_that_can_just_be_held(self):
        for futures, holder in JUST_PLANS:
            worths = (WORTHS * 2)[:len(futures)]
            self.check_answers(futures, holder, worths, best_another_way(futures, holder, worths))

    def test_no_plan(self):
        for futures, holder in NO_PLANS:
            worths = ((),) * len(futures)
            for function, args in FUNCTIONS:
                with self.subTest(futures=futures, function=function.__name__):
                    self.assertEqual(error_of(function, futures, holder, worths, *args), ("NoPlan", {}))
                    wrong = worths[:-1] + (None,)
                    expected = ("BadWorths", {"index": len(futures) - 1})
                    self.assertEqual(error_of(function, futures, holder, wrong, *args), expected)

    def test_wrong_arguments(self):
        for function, args in FUNCTIONS:
            args = (TREE, HOLDER, WORTHS) + args
            for value, index in BAD_FUTURES:
                check_refused(self, function, args, 0, "BadFutures", [value], index=index)
            check_refused(self, function, args, 1, "BadHolder", BAD_HOLDERS)
            for value, index in BAD_TREE_WORTHS:
                check_refused(self, function, args, 2, "BadWorths", [value], index=index)


SMALL = (
    (((None, ONE, 1), (0, HALF, 0), (0, HALF, 1)), (1, 1, 0), (((1, 1),), ((2, 8),), ((4, 2),))),
    (((None, ONE, 1), (0, HALF, 0), (0, HALF, 1)), (2, 1, 1), ((), ((1, 2),), ((1, 2),))),
    (((None, ONE, 1), (0, (1, 4), 2), (0, (3, 4), 0)), (1, 0, 1), (((1, 3), (1, 1)), ((1, 4),), ((3, 4), (2, 2)))),
    (((None, ONE, 2),), (2, 1, 0), (((1, 4), (1, 3)),)),
    (((None, ONE, 0), (0, ONE, 1), (1, ONE, 0)), (1, 1, 0), (((1, 1),), ((1, 1),), ((1, 1),))),
    (((None, ONE, 0), (0, HALF, 1), (0, HALF, 0)), (0, 0, 0), (((1, 1),), ((1, 1),), ((1, 1),))),
    (((None, ONE, 0), (0, ONE, 1)), (1, 1, 0), ((), ())),
    (((None, ONE, 0), (0, ONE, 2)), (1, 0, 1), ((), ())),
)


class ShowsTest(unittest.TestCase):
    def test_all_releases_of_halves(self):
        for futures, holder, worths in SMALL:
            rows = half_releases(futures, holder)
            best = max(mean_of(futures, worths, releases) for releases in rows)
            right, others = [], []
            for releases in itertools.product([Fraction(half, 2) for half in range(-1, 7)], repeat=len(futures)):
                good = are_releases(futures, holder, releases) and mean_of(futures, worths, releases) == best
                (right if good else others).append(ratios(releases))
            for value in right[:1] + right[-1:]:
                others.extend(near_ratios(value))
                others.extend((value[1:], value + ((0, 1),), tuple(top for top, _ in value)))
            self.assertTrue(right)
            check_shows(self, shows_tree, (futures, holder, worths), right, others)

    def test_releases_of_thirds(self):
        futures, holder, worths = SMALL[4]
        self.assertIs(shows_tree(futures, holder, worths, ((1, 3), (1, 1), (2, 3))), True)
        self.assertIs(shows_tree(futures, holder, worths, ((1, 3), (1, 1), (1, 3))), False)
        self.assertIs(shows_tree(futures, holder, worths, ((1, 3), (1, 1), (1, 1))), False)
        self.assertIs(shows_tree(futures, holder, worths, ((1, 3), (1, 3), (1, 1))), False)

    def test_all_small_prices(self):
        for futures, holder, worths in SMALL:
            best = best_another_way(futures, holder, worths)
            bottom = max(2, *(chance.denominator for chance in chances_of(futures)))
            right, others = [], []
            for tops in itertools.product(range(-1, 4 * bottom + 2), repeat=len(futures)):
                prices = [Fraction(top, bottom) for top in tops]
                is_right = min(prices) >= 0 and bound(futures, holder, worths, prices) == best
                if is_right or len(others) < 1500 or sum(tops) % 7 == 0:
                    (right if is_right else others).append(ratios(prices))
            self.assertTrue(right)
            for value in right[:1] + right[-1:]:
                others.extend(near_ratios(value))
                others.extend((value[1:], value + ((0, 1),), tuple(top for top, _ in value)))
                far = value[:-1] + ((10 ** 40, 1),)
                good = bound(futures, holder, worths, [Fraction(*one) for one in far]) == best
                (right if good else others).append(far)
            right = right[:400] + right[-50:]
            others = [value for value in others if repr(value) not in set(map(repr, right))]
            check_shows(self, shows_tree_prices, (futures, holder, worths), right, others)


if __name__ == "__main__":
    unittest.main()
