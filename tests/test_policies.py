"""Point 29: stores, the best mean, shares and values."""

import itertools
import random
import unittest
from fractions import Fraction

from damworks.policies import best_mean, policy_shares, policy_values, shows_policy_values, shows_shares
from tests.helpers import (
    BAD_RATIOS, BAD_WORTHS, KINDS, check_refused, check_shows, error_of, fraction, fractions, near_ratios, ratios,
    some_worths,
)
from tests.test_ponds import BAD_CHANCES

HALVES = ((1, 2), (1, 2))
SIX = ((1, 6),)
ARGS = (2, HALVES, SIX)
FUNCTIONS = ((best_mean, ()), (policy_shares, ()), (policy_values, ()), (shows_shares, (None,)),
             (shows_policy_values, (None,)))

BAD_STORES = tuple(value for value in KINDS if repr(value) != "1") + (8, -1, "1", "2", (2,), (2, 1), [1])
BAD_PIECES = tuple(value for value in KINDS if repr(value) not in ("()", "((1, 1),)")) + SIX + tuple(
    value[0] for value, index in BAD_WORTHS if index == 0
) + (list(SIX), (SIX,), ((1, 6), (1, 6)), ((1, 6), (1, 7)), ((1, 4), (1, 3), (1, 2), (1, 1)), ((1, 0),), ((0, 1),))

EXAMPLES = (
    ARGS, (1, HALVES, SIX), (1, ((0, 1), (1, 1)), SIX), (1, ((1, 1), (0, 1)), SIX), (2, ((0, 1), (1, 1)), ((1, 3), (1, 1))),
    (2, ((1, 2), (0, 1), (1, 2)), SIX), (2, ((1, 4), (1, 2), (1, 4)), ((1, 4), (1, 3))), (1, ((0, 1), (0, 1), (1, 1)), ()),
    (2, ((1, 1), (0, 1)), ((2, 9),)), (2, ((1, 3), (1, 3), (1, 3)), ()), (2, ((0, 1), (0, 1), (1, 1)), ((1, 5), (1, 1))),
)


def next_month(capacity, chances, held, release):
    """The chances, as fractions, of what is held a month later."""
    later = [Fraction(0)] * (capacity + 1)
    for inflow, (top, bottom) in enumerate(chances):
        later[min(capacity, held - release + inflow)] += Fraction(top, bottom)
    return later


def worth_of(pieces, release):
    """What a whole release is worth, unit by unit."""
    return sum([price for amount, price in pieces for _ in range(amount)][:release])


def all_ways(capacity):
    """All ways to release for each number held."""
    return itertools.product(*[range(held + 1) for held in range(capacity + 1)])


def solved(rows):
    """The unknowns of equations with exactly one solution, by fractions."""
    rows, count = [list(map(Fraction, row)) for row in rows], len(rows)
    for at in range(count):
        chosen = next(row for row in range(at, count) if rows[row][at] != 0)
        rows[at], rows[chosen] = rows[chosen], rows[at]
        rows[at] = [one / rows[at][at] for one in rows[at]]
        for row in range(count):
            if row != at:
                rows[row] = [one - rows[row][at] * other for one, other in zip(rows[row], rows[at])]
    return [row[-1] for row in rows]


def means_of_way(capacity, chances, pieces, way):
    """The mean worth of a month in each set of numbers held that a way comes back to for ever."""
    later = [next_month(capacity, chances, held, release) for held, release in enumerate(way)]
    reach = []
    for held in range(capacity + 1):
        found, open_ends = {held}, [held]
        while open_ends:
            at = open_ends.pop()
            for place in range(capacity + 1):
                if later[at][place] > 0 and place not in found:
                    found.add(place)
                    open_ends.append(place)
        reach.append(found)
    for held in range(capacity + 1):
        if all(held in reach[place] for place in reach[held]) and held == min(reach[held]):
            places = sorted(reach[held])
            rows = [[1] * len(places) + [1]]
            for place in places[1:]:
                rows.append([int(at == place) - later[at][place] for at in places] + [0])
            yield sum(share * worth_of(pieces, way[place]) for share, place in zip(solved(rows), places))


def mean_another_way(capacity, chances, pieces):
    """The best mean by every way to release for each number held."""
    return max(mean for way in all_ways(capacity) for mean in means_of_way(capacity, chances, pieces, way))


def are_shares(capacity, chances, triples):
    """Whether triples of numbers, the last one of each a fraction, are shares."""
    pairs = [triple[:2] for triple in triples]
    if pairs != sorted(set(pairs)) or any(share <= 0 for _, _, share in triples):
        return False
    before, after = [Fraction(0)] * (capacity + 1), [Fraction(0)] * (capacity + 1)
    for held, release, share in triples:
        before[held] += share
        for place, chance in enumerate(next_month(capacity, chances, held, release)):
            after[place] += share * chance
    return sum(before) == 1 and before == after


def mean_of(pieces, triples):
    """The mean worth of shares."""
    return sum(share * worth_of(pieces, release) for _, release, share in triples)


def are_values(capacity, chances, pieces, best, values):
    """Whether fractions are values, by the words of the point."""
    for held in range(capacity + 1):
        for release in range(held + 1):
            later = next_month(capacity, chances, held, release)
            behind = sum(chance * value for chance, value in zip(later, values))
            if best + values[held] < worth_of(pieces, release) + behind:
                return False
    return True


def some_chances(dice):
    """Chances of inflows, some of them 0."""
    bottom, count = dice.choice((1, 2, 3, 6, 10, 97, 100)), dice.randint(2, 6)
    cuts = [0] + sorted(dice.randint(0, bottom) for _ in range(count - 1)) + [bottom]
    return ratios([Fraction(behind - before, bottom) for before, behind in zip(cuts, cuts[1:])])


def some_stores(many, seed, most):
    """Stores with chances and pieces."""
    dice = random.Random(seed)
    for _ in range(many):
        yield dice.randint(1, most), some_chances(dice), some_worths(1, dice, dice.choice((1, 2, 4, 9)))[0]


class PoliciesTest(unittest.TestCase):
    def check_answers(self, capacity, chances, pieces):
        """Shares and values that prove each other by the words of the point; the best mean is returned."""
        best = fraction(best_mean(capacity, chances, pieces))
        shares = policy_shares(capacity, chances, pieces)
        self.assertIsInstance(shares, tuple)
        triples = []
        for held, release, share in shares:
            self.assertTrue(type(held) is int and type(release) is int and 0 <= release <= held <= capacity)
            triples.append((held, release, fraction(share)))
        self.assertTrue(are_shares(capacity, chances, triples))
        self.assertEqual(mean_of(pieces, triples), best)
        values = policy_values(capacity, chances, pieces)
        self.assertEqual(len(values), capacity + 1)
        self.assertTrue(are_values(capacity, chances, pieces, best, fractions(values)))
        self.assertIs(shows_shares(capacity, chances, pieces, shares), True)
        self.assertIs(shows_policy_values(capacity, chances, pieces, values), True)
        return best

    def test_examples(self):
        self.assertEqual(best_mean(*ARGS), (3, 1))
        self.assertEqual(policy_shares(1, HALVES, SIX), ((0, 0, (1, 2)), (1, 1, (1, 2))))
        for args in EXAMPLES:
            self.assertEqual(self.check_answers(*args), mean_another_way(*args))

    def test_against_every_way(self):
        for args in some_stores(150, 291, 3):
            with self.subTest(args):
                self.assertEqual(self.check_answers(*args), mean_another_way(*args))

    def test_against_every_way_of_a_greater_store(self):
        for args in some_stores(4, 292, 4):
            args = (4,) + args[1:]
            with self.subTest(args):
                self.assertEqual(self.check_answers(*args), mean_another_way(*args))

    def test_great_stores_by_shares_and_values(self):
        for args in some_stores(120, 293, 6):
            with self.subTest(args):
                self.check_answers(*args)

    def test_edges(self):
        self.assertEqual(self.check_answers(1, HALVES, ()), 0)
        self.assertEqual(self.check_answers(6, ((1, 1), (0, 1)), ((1000, 1000),)), 0)
        self.assertEqual(self.check_answers(1, ((0, 1), (1, 1)), ((1, 7),)), 7)
        # What is above the capacity is spilled before anything is released.
        self.assertEqual(self.check_answers(1, ((0, 1),) * 5 + ((1, 1),), ((9, 7),)), 7)
        self.assertEqual(self.check_answers(6, ((0, 1),) * 5 + ((1, 1),), ((9, 7),)), 35)
        self.assertEqual(self.check_answers(6, ((0, 1),) * 5 + ((1, 1),), ((4, 7),)), 28)
        self.assertEqual(self.check_answers(6, ((1, 2),) + ((0, 1),) * 4 + ((1, 2),), ((1, 4), (5, 1))), Fraction(39, 8))
        unlike = ((1, 100), (1, 97), (1, 89), (1, 83), (1, 79))
        rest = 1 - sum(fractions(unlike))
        self.assertGreater(rest.denominator, 100)
        self.assertEqual(error_of(best_mean, 6, unlike + ratios([rest]), SIX), ("BadChances", {}))
        self.check_answers(6, ratios([Fraction(1, 99), Fraction(1, 9), Fraction(2, 11), Fraction(1, 3), Fraction(4, 33),
                                      Fraction(8, 33)]), ((1, 1000), (1, 999), (2, 1)))

    def test_several_ends(self):
        # With an inflow of 1 for sure, each way to hold goes on for ever by itself; the best one is taken.
        for capacity in range(1, 7):
            self.assertEqual(self.check_answers(capacity, ((0, 1), (1, 1)), ((1, 3), (1, 1))), 3)
        self.assertEqual(self.check_answers(2, ((0, 1), (1, 1)), ((1, 3),)), 3)

    def test_wrong_arguments(self):
        for function, args in FUNCTIONS:
            check_refused(self, function, ARGS + args, 0, "BadStore", BAD_STORES)
            check_refused(self, function, ARGS + args, 1, "BadChances", BAD_CHANCES)
            check_refused(self, function, ARGS + args, 2, "BadPieces", BAD_PIECES)
            for pieces in ((), SIX, ((1000, 1000), (1000, 999), (1000, 998))):
                for capacity in (1, 6):
                    self.assertIsNone(error_of(function, capacity, HALVES, pieces, *args))


class ShowsTest(unittest.TestCase):
    def test_shares_of_eighths(self):
        for capacity, chances, pieces in EXAMPLES:
            best = mean_another_way(capacity, chances, pieces)
            choices = [(held, release) for held in range(capacity + 1) for release in range(held + 1)]
            right, others = [], []
            for parts in itertools.product(range(9), repeat=len(choices)):
                if sum(parts) == 8 or sum(parts) == 7 and len(others) < 200:
                    triples = [(*choice, Fraction(part, 8)) for choice, part in zip(choices, parts) if part]
                    is_right = are_shares(capacity, chances, triples) and mean_of(pieces, triples) == best
                    value = tuple((held, release, *ratios([share])) for held, release, share in triples)
                    if is_right or len(others) < 1500:
                        (right if is_right else others).append(value)
            self.assertTrue(right, (capacity, chances, pieces))
            for value in right[:2] + right[-1:]:
                others.extend(self.near(value))
            known = set(map(repr, right))
            others = [value for value in others if repr(value) not in known]
            check_shows(self, shows_shares, (capacity, chances, pieces), right, others)

    def near(self, value):
        """Values that look like shares and are none."""
        (held, release, (top, bottom)), *rest = value
        found = [
            list(value), value[1:], value + value[-1:], value + ((9, 9, (1, 2)),), dict(enumerate(value)), str(value), (),
            (value,), value + (None,), value[::-1] + ((0, 0, (0, 1)),), value + ((9, 0, (0, 1)),), value[0],
        ]
        if rest:
            found.append(value[::-1])
        for one in (
            [held, release, (top, bottom)], (held, release), (held, release, (top, bottom), 0), (release, held - 9, (1, 1)),
            (held, release, (2 * top, 2 * bottom)), (held, release, (-top, -bottom)), (held, release, [top, bottom]),
            (held, release, top), (held, release, (0, 1)), (held, release, (top + bottom, bottom)), (held, release, None),
            (held, release, (-top, bottom)), (held, release, (bool(top), bottom)), (str(held), release, (top, bottom)),
            (held, str(release), (top, bottom)), (bool(held), release, (top, bottom)),
            (held, bool(release), (top, bottom)), (None, release, (top, bottom)), (held, None, (top, bottom)),
            ((held,), release, (top, bottom)), (held, (release,), (top, bottom)), (held, held + 1, (top, bottom)),
            (held, -1, (top, bottom)), (-1, release, (top, bottom)), (-1, -1, (top, bottom)), (8, release, (top, bottom)),
            (held, 10 ** 30, (top, bottom)), (10 ** 30, 0, (top, bottom)), None, held, "abc",
        ):
            found.append((one, *rest))
        # The same pair twice, its ratio in two parts.
        for part in (Fraction(1, 2), Fraction(1, 3)):
            parts = ratios([part * Fraction(top, bottom), (1 - part) * Fraction(top, bottom)])
            found.append(((held, release, parts[0]), (held, release, parts[1]), *rest))
        return found

    def test_shares_that_are_not_positive(self):
        self.assertIs(shows_shares(1, HALVES, SIX, ((0, 0, HALVES[0]), (1, 1, HALVES[0]))), True)
        self.assertIs(shows_shares(1, HALVES, SIX, ((0, 0, HALVES[0]), (1, 0, (0, 1)), (1, 1, HALVES[0]))), False)
        # All else is right: they sum to 1, a month leaves them as they are, and the mean is the best one.
        full = (1, ((0, 1), (1, 1)), ())
        self.assertIs(shows_shares(*full, ((1, 0, (1, 3)), (1, 1, (2, 3)))), True)
        self.assertIs(shows_shares(*full, ((1, 0, (2, 1)), (1, 1, (-1, 1)))), False)
        self.assertIs(shows_shares(*full, ((1, 0, (-1, 1)), (1, 1, (2, 1)))), False)

    def test_shares_that_are_mixed(self):
        args = (2, ((0, 1), (1, 1)), ((1, 3), (1, 1)))
        self.assertIs(shows_shares(*args, ((1, 1, (1, 3)), (2, 1, (2, 3)))), True)
        self.assertIs(shows_shares(*args, ((1, 1, (1, 3)), (2, 1, (1, 3)))), False)
        self.assertIs(shows_shares(*args, ((2, 1, (2, 3)), (1, 1, (1, 3)))), False)
        self.assertIs(shows_shares(*args, ((1, 1, (10 ** 30, 10 ** 30 + 1)), (2, 1, (1, 10 ** 30 + 1)))), True)
        # They sum to 1 and each month leaves them as they are, but another mean is greater.
        self.assertIs(shows_shares(*args, ((2, 0, (1, 2)), (2, 1, (1, 2)))), False)

    def test_all_small_values(self):
        for capacity, chances, pieces in EXAMPLES:
            best = mean_another_way(capacity, chances, pieces)
            halves = [Fraction(half, 2) for half in (range(-7, 26) if capacity == 1 else range(-2, 22, 2))]
            found = policy_values(capacity, chances, pieces)
            right, others = [found], []
            for shift in (Fraction(1, 3), Fraction(-7, 2), Fraction(10 ** 30)):
                right.append(ratios([value + shift for value in fractions(found)]))
            for values in itertools.product(halves, repeat=capacity + 1):
                is_right = are_values(capacity, chances, pieces, best, values)
                (right if is_right else others).append(ratios(values))
            for value in (found, right[-1]):
                for wrong in near_ratios(value) + [value[1:], value + ((0, 1),), [*value], (value,)]:
                    if not self.is_right(capacity, chances, pieces, best, wrong):
                        others.append(wrong)
                    else:
                        right.append(wrong)
            known = set(map(repr, right))
            others = [value for value in others if repr(value) not in known]
            check_shows(self, shows_policy_values, (capacity, chances, pieces), right, others)

    def is_right(self, capacity, chances, pieces, best, value):
        """Whether any value is values: ratios may be negative here."""
        try:
            numbers = fractions(value)
        except (AssertionError, TypeError, ValueError, ZeroDivisionError):
            return False
        return len(numbers) == capacity + 1 and are_values(capacity, chances, pieces, best, numbers)

    def test_values_that_are_no_ratios(self):
        for wrong in BAD_RATIOS:
            self.assertIs(shows_policy_values(1, HALVES, SIX, ((0, 1), wrong)), False)
            self.assertIs(shows_policy_values(1, HALVES, SIX, (wrong, (6, 1))), False)
        self.assertIs(shows_policy_values(1, HALVES, SIX, ((0, 1), (6, 1))), True)
        self.assertIs(shows_policy_values(1, HALVES, SIX, ((-9, 1), (-3, 1))), True)


if __name__ == "__main__":
    unittest.main()
