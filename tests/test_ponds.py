"""Points 15 and 16: chances, ponds, levels, and the settled state."""

import itertools
import random
import unittest
from fractions import Fraction

from damworks.ponds import (
    failing_share, least_capacity, mean_given, mean_spilled, mean_wait, pair_chance, pond_steps, round_settled, settled,
    spill_first,
)
from tests.helpers import BAD_RATIOS, KINDS, check_refused, error_of, fraction, fractions, ratios

POND = (2, 1)
CHANCES = ((1, 2), (1, 4), (1, 4))
HALF = (1, 2)
DRY_AND_WET = ((1, 2), (0, 1), (0, 1), (0, 1), (0, 1), (1, 2))
NEVER_DRY = ((0, 1), (1, 2), (1, 2))

# The functions of a pond, its chances and more, with arguments that are right.
STATES = ((settled, ()), (failing_share, ()), (mean_given, ()), (mean_spilled, ()))
OF_LEVEL = ((mean_wait, (0,)), (spill_first, (0,)))
OF_POND = STATES + OF_LEVEL + ((pond_steps, (0, 1)), (pair_chance, (0, 1, 2)))

BAD_PONDS = tuple(value for value in KINDS) + (
    [2, 1], (2,), (2, 1, 0), {2: 1}, (0, 0), (0, 1), (1, 0), (2, 3), (9, 1), (-1, 1), (2, -1), (True, 1), (1, True),
    (2, True), ("2", 1), (2, "1"), (None, 1), (2, None), ((2,), 1), (2, (1,)), (10 ** 30, 1), (8, 9),
)

BAD_CHANCES = KINDS + (
    (HALF,), ((1, 1),), [HALF, HALF], (HALF, [1, 2]), {0: HALF, 1: HALF}, (HALF, HALF, HALF), (HALF, (1, 3)),
    (HALF, (2, 4)), ((1, 7),) * 7, ((1, 1),) + ((0, 1),) * 6, ((-1, 2), (3, 2)), ((3, 2), (-1, 2)), (HALF, None),
    ((1, 101), (100, 101)), (HALF, (1, 2, 0)), ((2, 1), (-1, 1)), ((True, 1), (0, 1)), ((1, 1), (False, 1)),
    ((1, True), (0, 1)), ((1, 1), (0, 2)), ((1, 1), (0, 0)), ((0, 1), (0, 1)), ((-1, -2), HALF), (HALF, "12"), (1, 0),
    (HALF, HALF, (0, 1), (0, 1), (0, 1), (0, 1), (0, 1)),
) + tuple((HALF, one) for one in BAD_RATIOS if repr(one) != "(1, 2)")
BAD_CHANCES = tuple(value for value in BAD_CHANCES if repr(value) != "((0, 1), (1, 1))")

BAD_LEVELS = tuple(value for value in KINDS if repr(value) not in ("0", "1")) + (2, (0,), "0", "1")
BAD_MONTHS = tuple(value for value in KINDS if repr(value) not in ("0", "1", "7")) + (25, "3", (3,))

BAD_ROUNDS = KINDS + (
    (), CHANCES, [CHANCES], (list(CHANCES),), (CHANCES,) * 5, {0: CHANCES}, (CHANCES, None),
) + tuple((wrong,) for wrong in BAD_CHANCES) + tuple((CHANCES, wrong) for wrong in BAD_CHANCES)

BAD_RELEASES = tuple(value for value in KINDS if repr(value) not in ("1", "7")) + (9, (1,), "1")
BAD_SHARES = tuple(value for value in KINDS if repr(value) != "(1, 2)") + BAD_RATIOS
BAD_SHARES = tuple(value for value in BAD_SHARES if repr(value) != "(1, 2)")


def month_by_words(pond, level, inflow):
    """What is given and spilled, and the level then, unit by unit."""
    capacity, release = pond
    held, given, spilled = level + inflow, 0, 0
    while held > capacity:
        held, spilled = held - 1, spilled + 1
    while given < release and held > 0:
        held, given = held - 1, given + 1
    return given, spilled, held


def levels_of(pond):
    """All levels of a pond."""
    return range(pond[0] - pond[1] + 1)


def steps_another_way(pond, some, level):
    """The chances of levels behind some months, by all their inflows."""
    found = [Fraction(0)] * len(levels_of(pond))
    for inflows in itertools.product(*(range(len(chances)) for chances in some)):
        chance, held = Fraction(1), level
        for inflow, chances in zip(inflows, some):
            chance *= Fraction(*chances[inflow])
            held = month_by_words(pond, held, inflow)[2]
        found[held] += chance
    return found


def turned(pond, some, shares):
    """What becomes of the chances of levels by a turn of months."""
    found = [Fraction(0)] * len(shares)
    for level, share in enumerate(shares):
        for place, chance in enumerate(steps_another_way(pond, some, level)):
            found[place] += share * chance
    return found


def some_chances(dice, most_count=6):
    """Chances, often some of them 0."""
    count = dice.randint(2, most_count)
    bottom = dice.choice((2, 4, 10, 97, 100))
    cuts = [0] + sorted(dice.randint(0, bottom) for _ in range(count - 1)) + [bottom]
    return ratios(Fraction(behind - before, bottom) for before, behind in zip(cuts, cuts[1:]))


def some_ponds(many, seed, most_capacity=8):
    """Ponds with chances."""
    dice = random.Random(seed)
    for _ in range(many):
        capacity = dice.randint(1, most_capacity)
        yield (capacity, dice.randint(1, dice.choice((capacity, min(capacity, 3))))), some_chances(dice)


def settles(pond, chances):
    """Whether an inflow smaller than the release has a chance."""
    return any(top > 0 for top, _ in chances[:pond[1]])


class StepsTest(unittest.TestCase):
    def test_example(self):
        self.assertEqual(pond_steps(POND, CHANCES, 0, 1), ((3, 4), (1, 4)))

    def test_against_all_inflows(self):
        for pond, chances in some_ponds(120, 111):
            for level in levels_of(pond):
                for months in range(4):
                    with self.subTest(pond=pond, chances=chances, level=level, months=months):
                        found = fractions(pond_steps(pond, chances, level, months))
                        self.assertEqual(found, steps_another_way(pond, (chances,) * months, level))

    def test_no_months_and_many(self):
        self.assertEqual(pond_steps((8, 1), CHANCES, 7, 0), ((0, 1),) * 7 + ((1, 1),))
        self.assertEqual(pond_steps((3, 3), CHANCES, 0, 24), ((1, 1),))
        for pond, chances in some_ponds(20, 112):
            shares = fractions(pond_steps(pond, chances, 0, 23))
            self.assertEqual(fractions(pond_steps(pond, chances, 0, 24)), turned(pond, (chances,), shares))
            self.assertEqual(sum(shares), 1)

    def test_it_need_not_settle(self):
        self.assertEqual(pond_steps(POND, NEVER_DRY, 0, 1), ((1, 2), (1, 2)))
        self.assertEqual(pond_steps((1, 1), ((0, 1), (1, 1)), 0, 24), ((1, 1),))


class SettledTest(unittest.TestCase):
    def test_examples(self):
        self.assertEqual(settled(POND, CHANCES), ((2, 3), (1, 3)))
        self.assertEqual(failing_share(POND, CHANCES), (1, 3))
        self.assertEqual(mean_spilled(POND, CHANCES), (1, 12))
        self.assertEqual(mean_wait(POND, CHANCES, 0), (3, 1))
        self.assertEqual(spill_first(POND, CHANCES, 1), (3, 7))

    def test_one_month_more(self):
        unsettled = 0
        for pond, chances in some_ponds(300, 113):
            with self.subTest(pond=pond, chances=chances):
                if not settles(pond, chances):
                    unsettled += 1
                    continue
                shares = fractions(settled(pond, chances))
                self.assertEqual(len(shares), len(levels_of(pond)))
                self.assertEqual((sum(shares), min(shares) >= 0), (1, True))
                self.assertEqual(turned(pond, (chances,), shares), shares)
                self.check_means(pond, chances, shares)
        self.assertGreater(unsettled, 10)

    def check_means(self, pond, chances, shares):
        failing = given = spilled = inflows = Fraction(0)
        for level, share in enumerate(shares):
            for inflow, (top, bottom) in enumerate(chances):
                weight = share * Fraction(top, bottom)
                month = month_by_words(pond, level, inflow)
                failing += weight * (month[0] < pond[1])
                given += weight * month[0]
                spilled += weight * month[1]
                inflows += weight * inflow
        self.assertEqual(fraction(failing_share(pond, chances)), failing)
        self.assertEqual(fraction(mean_given(pond, chances)), given)
        self.assertEqual(fraction(mean_spilled(pond, chances)), spilled)
        self.assertEqual(given + spilled, inflows)

    def test_waits_and_spills_by_one_month_more(self):
        for pond, chances in some_ponds(200, 114):
            if settles(pond, chances):
                waits = [fraction(mean_wait(pond, chances, level)) for level in levels_of(pond)]
                spills = [fraction(spill_first(pond, chances, level)) for level in levels_of(pond)]
                for level in levels_of(pond):
                    wait, spill = Fraction(1), Fraction(0)
                    for inflow, (top, bottom) in enumerate(chances):
                        given, spilled, behind = month_by_words(pond, level, inflow)
                        if given == pond[1]:
                            wait += Fraction(top, bottom) * waits[behind]
                            spill += Fraction(top, bottom) * (1 if spilled else spills[behind])
                    with self.subTest(pond=pond, chances=chances, level=level):
                        self.assertEqual((waits[level], spills[level]), (wait, spill))
                        self.assertTrue(waits[level] >= 1 and 0 <= spills[level] <= 1)

    def test_pairs(self):
        for pond, chances in some_ponds(60, 115, 4):
            if settles(pond, chances):
                shares = fractions(settled(pond, chances))
                for first, second in itertools.product(levels_of(pond), repeat=2):
                    for months in (0, 1, 3, 24):
                        with self.subTest(pond=pond, chances=chances, first=first, second=second, months=months):
                            steps = fractions(pond_steps(pond, chances, first, months))
                            found = fraction(pair_chance(pond, chances, first, second, months))
                            self.assertEqual(found, shares[first] * steps[second])

    def test_pairs_of_the_example(self):
        self.assertEqual(pair_chance(POND, CHANCES, 0, 1, 0), (0, 1))
        self.assertEqual(pair_chance(POND, CHANCES, 1, 1, 0), (1, 3))
        self.assertEqual(pair_chance(POND, CHANCES, 0, 1, 1), (1, 6))
        self.assertEqual(pair_chance(POND, CHANCES, 1, 0, 1), (1, 6))

    def test_a_release_of_the_whole_capacity(self):
        for capacity in range(1, 9):
            pond = (capacity, capacity)
            self.assertEqual(settled(pond, DRY_AND_WET), ((1, 1),))
            self.assertEqual(failing_share(pond, DRY_AND_WET), (1, 2) if capacity <= 5 else (1, 1))
            self.assertEqual(mean_wait(pond, DRY_AND_WET, 0), (2, 1) if capacity <= 5 else (1, 1))
            self.assertEqual(spill_first(pond, DRY_AND_WET, 0), (1, 2) if capacity < 5 else (0, 1))

    def test_chances_of_nothing(self):
        self.assertEqual(settled((8, 1), ((1, 1), (0, 1))), ((1, 1),) + ((0, 1),) * 7)
        self.assertEqual(failing_share((8, 1), ((1, 1), (0, 1))), (1, 1))
        self.assertEqual(mean_wait((8, 1), ((1, 1), (0, 1)), 7), (8, 1))
        self.assertEqual(spill_first((8, 1), ((1, 1), (0, 1)), 7), (0, 1))
        self.assertEqual(mean_given((8, 1), ((1, 1), (0, 1))), (0, 1))

    def test_unsettled(self):
        # An inflow smaller than the release has no chance.
        for pond, chances in ((POND, NEVER_DRY), ((8, 2), ((0, 1), (0, 1), (1, 1))), ((1, 1), ((0, 1), (1, 1)))):
            for function, args in OF_POND:
                if function is not pond_steps and not (args and pond == (1, 1)):
                    self.assertEqual(error_of(function, pond, chances, *args), ("Unsettled", {}))
            self.assertIsNone(error_of(pond_steps, pond, chances, 0, 1))
            self.assertEqual(error_of(round_settled, pond, (chances,)), ("Unsettled", {}))
            self.assertEqual(error_of(round_settled, pond, (CHANCES, chances)), ("Unsettled", {}))
            self.assertEqual(error_of(round_settled, pond, (chances, CHANCES)), ("Unsettled", {}))
            self.assertEqual(error_of(least_capacity, pond[1], chances, (1, 1)), ("Unsettled", {}))
        self.assertIsNone(error_of(settled, (8, 2), ((0, 1), (1, 1))))
        self.assertIsNone(error_of(settled, (8, 8), ((0, 1), (1, 2), (1, 2))))

    def test_unsettled_comes_behind_all_other_errors(self):
        for wrong in BAD_LEVELS:
            for function, _ in OF_LEVEL:
                self.assertEqual(error_of(function, POND, NEVER_DRY, wrong), ("BadLevel", {}))
            self.assertEqual(error_of(pair_chance, POND, NEVER_DRY, wrong, 0, 0), ("BadLevel", {}))
            self.assertEqual(error_of(pair_chance, POND, NEVER_DRY, 0, wrong, None), ("BadLevel", {}))
        for wrong in BAD_MONTHS:
            self.assertEqual(error_of(pair_chance, POND, NEVER_DRY, 0, 0, wrong), ("BadMonths", {}))
        for wrong in BAD_SHARES:
            self.assertEqual(error_of(least_capacity, 1, NEVER_DRY, wrong), ("BadShare", {}))


class RoundTest(unittest.TestCase):
    def test_one_turn_more(self):
        dice = random.Random(116)
        for pond, _ in some_ponds(100, 116):
            some = tuple(some_chances(dice, 4) for _ in range(dice.randint(1, 4)))
            with self.subTest(pond=pond, some=some):
                if all(settles(pond, chances) for chances in some):
                    shares = fractions(round_settled(pond, some))
                    self.assertEqual((sum(shares), min(shares) >= 0), (1, True))
                    self.assertEqual(turned(pond, some, shares), shares)
                else:
                    self.assertEqual(error_of(round_settled, pond, some), ("Unsettled", {}))

    def test_turns_of_one_and_of_four(self):
        self.assertEqual(round_settled(POND, (CHANCES,)), settled(POND, CHANCES))
        self.assertEqual(round_settled(POND, (CHANCES,) * 4), settled(POND, CHANCES))
        wet = ((1, 100), (0, 1), (99, 100))
        self.assertEqual(round_settled(POND, (wet, ((1, 1), (0, 1)))), ((1, 1), (0, 1)))
        self.assertEqual(round_settled(POND, (((1, 1), (0, 1)), wet)), ((1, 100), (99, 100)))

    def test_wrong_arguments(self):
        check_refused(self, round_settled, (POND, (CHANCES,)), 0, "BadPond", BAD_PONDS)
        check_refused(self, round_settled, (POND, (CHANCES,)), 1, "BadRound", BAD_ROUNDS)
        self.assertEqual(error_of(round_settled, POND, (NEVER_DRY, None)), ("BadRound", {}))


class LeastCapacityTest(unittest.TestCase):
    def test_against_all_capacities(self):
        dice = random.Random(117)
        counts = {}
        for _ in range(300):
            release, chances = dice.randint(1, 8), some_chances(dice)
            share = Fraction(dice.randint(-1, 12), dice.choice((7, 10, 12)))
            with self.subTest(release=release, chances=chances, share=share):
                if settles((8, release), chances):
                    right = [
                        capacity for capacity in range(release, 9)
                        if fraction(failing_share((capacity, release), chances)) <= share
                    ]
                    found = least_capacity(release, chances, (share.numerator, share.denominator))
                    self.assertEqual(found, min(right, default=None))
                    counts[found] = counts.get(found, 0) + 1
                else:
                    found = error_of(least_capacity, release, chances, (1, 1))
                    self.assertEqual(found, ("Unsettled", {}))
        self.assertTrue({None, 1, 2, 3} <= set(counts), counts)

    def test_edges(self):
        self.assertEqual(least_capacity(1, CHANCES, failing_share((1, 1), CHANCES)), 1)
        self.assertEqual(least_capacity(1, CHANCES, (1, 3)), 2)
        self.assertEqual(least_capacity(8, CHANCES, (1, 1)), 8)
        self.assertEqual(least_capacity(3, CHANCES, (5, 1)), 3)
        self.assertIsNone(least_capacity(8, CHANCES, (999, 1000)))
        self.assertIsNone(least_capacity(1, CHANCES, (0, 1)))
        self.assertIsNone(least_capacity(1, CHANCES, (-1, 2)))
        share = failing_share((8, 1), CHANCES)
        self.assertEqual(least_capacity(1, CHANCES, share), 8)
        self.assertIsNone(least_capacity(1, CHANCES, ratios([Fraction(*share) - Fraction(1, 10 ** 20)])[0]))

    def test_wrong_arguments(self):
        args = (1, CHANCES, (1, 3))
        check_refused(self, least_capacity, args, 0, "BadRelease", BAD_RELEASES)
        check_refused(self, least_capacity, args, 1, "BadChances", BAD_CHANCES)
        check_refused(self, least_capacity, args, 2, "BadShare", BAD_SHARES)


class ArgumentsTest(unittest.TestCase):
    def test_ponds_and_chances(self):
        for function, args in OF_POND:
            check_refused(self, function, (POND, CHANCES) + args, 0, "BadPond", BAD_PONDS)
            check_refused(self, function, (POND, CHANCES) + args, 1, "BadChances", BAD_CHANCES)

    def test_levels_and_months(self):
        for function, args in OF_LEVEL + ((pond_steps, (0, 1)), (pair_chance, (0, 1, 2))):
            check_refused(self, function, (POND, CHANCES) + args, 2, "BadLevel", BAD_LEVELS)
        check_refused(self, pond_steps, (POND, CHANCES, 0, 1), 3, "BadMonths", BAD_MONTHS)
        check_refused(self, pair_chance, (POND, CHANCES, 0, 1, 2), 3, "BadLevel", BAD_LEVELS)
        check_refused(self, pair_chance, (POND, CHANCES, 0, 1, 2), 4, "BadMonths", BAD_MONTHS)

    def test_the_greatest_level(self):
        for pond in ((8, 1), (8, 8), (1, 1), (5, 2)):
            last = pond[0] - pond[1]
            for function in (mean_wait, spill_first):
                self.assertIsNone(error_of(function, pond, DRY_AND_WET, last))
                self.assertEqual(error_of(function, pond, DRY_AND_WET, last + 1), ("BadLevel", {}))
            self.assertEqual(error_of(pond_steps, pond, DRY_AND_WET, last + 1, 0), ("BadLevel", {}))

    def test_greatest_arguments(self):
        chances = ((1, 100), (1, 99), (1, 98), (1, 97), (1, 96))
        rest = 1 - sum(Fraction(*chance) for chance in chances)
        self.assertEqual(error_of(settled, (8, 1), chances + ratios([rest])), ("BadChances", {}))
        self.assertIsNone(error_of(settled, (8, 1), ((1, 100),) * 5 + ((19, 20),)))
        self.assertIsNone(error_of(settled, (8, 1), ((1, 6),) * 6))


if __name__ == "__main__":
    unittest.main()
