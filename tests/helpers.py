"""What several tests need: values of every kind, and how errors are looked at."""

import copy
import random
from fractions import Fraction

from damworks.errors import DamError

KINDS = (
    True, False, None, 0, 1, -1, 7, 1001, 10 ** 30, "", "5", "10 5 0 : 3", (), [], {}, (None,), (True,), (0,), [0],
    (1, 2), [1, 2], {0: 1}, {"a": (1, 2)}, ((),), ([],), ({},), ("a", "b"), (0, 1, 2, 3), ((0, 1), (1, 1)),
    ((1, 1),), ((0, 0), (0, 0)), (True, False), (0, None), (None, 0), ((0, 1), [1, 1]), {"first": 0, "last": 1},
)

DAM = (10, 5, 0, (3, 4))

BAD_INFLOWS = (
    None, 3, "34", (), [3, 4], {0: 3}, (3, True), (False,), (3, None), (3, "4"), (3, (4,)), (3, -1), (1001,),
    (1,) * 13, ((3, 4),), True,
)

BAD_DAMS = (
    None, True, 5, "10 5 0 : 3 4", (), [10, 5, 0, (3, 4)], {0: 10}, (10, 5, 0), (10, 5, 0, (3, 4), 1),
    (True, 0, 0, (3,)), (1, True, 0, (3,)), (1, 0, False, (3,)), (-1, 0, 0, (3,)), (1001, 0, 0, (3,)),
    (10, -1, 0, (3,)), (10, 11, 0, (3,)), (10, 0, -1, (3,)), (10, 0, 11, (3,)), ("10", 5, 0, (3,)),
    (10, None, 0, (3,)), (10, 5, (0,), (3,)), ((10,), 5, 0, (3,)), (None, None, None, None),
) + tuple((10, 5, 0, inflows) for inflows in BAD_INFLOWS)

BAD_DEMANDS = (
    None, True, 3, "34", (), [3, 4], {0: 3}, (3,), (3, 4, 5), (3, True), (False, 0), (3, None), (3, "4"), (3, (4,)),
    (3, -1), (1001, 0), ((3, 1), (4, 1)),
)


WORTHS = (((2, 5), (9, 1)), ((4, 3),))

# Values that are no worths for a dam of two months, each with the index of its error.
BAD_WORTHS = (
    (None, None), (True, None), (5, None), ("ab", None), ([], None), ([(), ()], None), ({0: ()}, None), ((), None),
    (((),), None), (((), (), ()), None), ((((2, 5),),), None),
    (([], ()), 0), (((), []), 1), ((None, ()), 0), (((), None), 1), ((5, 5), 0), (((), "ab"), 1), (({}, ()), 0),
    (((), ((2, 5), (9, 5))), 1), (((), ((2, 5), (9, 6))), 1), ((((9, 1), (2, 5)), ()), 0),
    (((), ((1, 4), (1, 3), (1, 2), (1, 1))), 1), ((((1, 4), (1, 3), (1, 2), (1, 1)), None), 0),
    (((), ((0, 1),)), 1), (((), ((1, 0),)), 1), (((), ((1001, 1),)), 1), (((), ((1, 1001),)), 1),
    ((((-1, 5),), ()), 0), ((((True, 5),), ()), 0), ((((2, True),), ()), 0), ((((2, 5, 1),), ()), 0),
    ((((2,),), ()), 0), (((2, 5), ()), 0), (((), ([2, 5],)), 1), (((), ({2: 5, 9: 1},)), 1), (((), [(2, 5)]), 1),
    (((), (("2", 5),)), 1), (((), ((2, (5, 1)),)), 1), (((), (None,)), 1), ((((1, 1), (1, 1), None), ()), 0),
)

NO_PLAN_DAMS = ((10, 2, 10, (3, 4)), (1000, 0, 1, (0, 0)), (5, 0, 5, (4, 0)), (7, 6, 7, (0, 0)))

# Dams whose ends can just be held.
JUST_PLAN_DAMS = ((10, 3, 10, (3, 4)), (1000, 0, 1, (0, 1)), (5, 0, 5, (5, 0)), (7, 7, 7, (0, 0)), (0, 0, 0, (0, 0)))


def error_of(function, *args):
    """The name and the fields of the error that a call raises, None if it raises none of the package's errors."""
    try:
        function(*args)
    except DamError as error:
        return type(error).__name__, dict(vars(error))
    return None


def check_refused(test, function, args, place, name, values, **fields):
    """Each of the values, in the place of one argument, is refused by the named error, whatever stands behind it."""
    for value in values:
        behind = [args[place + 1:]] + [(wrong,) * len(args[place + 1:]) for wrong in (None, "x", [])]
        for rest in behind:
            given = tuple(args[:place]) + (value,) + tuple(rest)
            with test.subTest(function=function.__name__, given=given):
                before = copy.deepcopy(given)
                test.assertEqual(error_of(function, *given), (name, fields))
                test.assertEqual(given, before)


def check_worths_refused(test, function, args):
    """A function of a dam, worths and more arguments refuses wrong dams and worths, and, behind all, no plan."""
    check_refused(test, function, (DAM, WORTHS) + args, 0, "BadDam", BAD_DAMS)
    for value, index in BAD_WORTHS:
        for dam in (DAM, NO_PLAN_DAMS[0]):
            check_refused(test, function, (dam, WORTHS) + args, 1, "BadWorths", [value], index=index)
    for dam in NO_PLAN_DAMS:
        test.assertEqual(error_of(function, dam, WORTHS, *args), ("NoPlan", {}))


def check_shows(test, function, args, right, others=()):
    """Of values of every kind and the others, the function shows just the right ones."""
    known = {repr(value) for value in right}
    wrong = tuple(value for value in KINDS if value is not None) + tuple(others)
    for value in wrong + (None,):
        with test.subTest(function=function.__name__, args=args, value=value):
            before = copy.deepcopy(value)
            test.assertIs(function(*args, value), repr(value) in known)
            test.assertEqual(value, before)
    for value in right:
        with test.subTest(function=function.__name__, args=args, value=value):
            test.assertIs(function(*args, value), True)


def same(one, other):
    """Whether two values are equal and of the same kinds throughout, so that True is not 1."""
    return repr(one) == repr(other)


def near_pairs(pair):
    """Values that look like a pair of integers and are none."""
    first, second = pair
    return (
        [first, second], (first, second, 0), (first,), {first: second}, (str(first), second), (first, None),
        ((first,), second), (first, (second, 1)), (bool(first), second), (first, bool(second)), first, str(pair),
        (first - 20, second), (first, second - 20), (first + 20, second), (first, second + 20),
    )


def windows(count):
    """All pairs (first, last) of months."""
    return [(first, last) for first in range(count) for last in range(first, count)]


def water_of_window(dam, first, last, end):
    """What the months from the first to the last one can have at most, less so much if the last one is the last."""
    capacity, start, _, inflows = dam
    held = start if first == 0 else capacity
    return held + sum(inflows[first:last + 1]) - (end if last == len(inflows) - 1 else 0)


def gives(dam, demands, end):
    """Whether all demands, any numbers, are given in full, and so much is held in the end."""
    capacity, held, _, inflows = dam
    for inflow, demand in zip(inflows, demands):
        held = min(capacity, held + inflow - demand)
        if held < 0:
            return False
    return held >= end


def has_plan(dam):
    """Whether the end can be held if nothing is released."""
    return gives(dam, (0,) * len(dam[3]), dam[2])


def some_dams(many, seed):
    """Dams of all lengths, with plans and without, for tests that go through many."""
    dice = random.Random(seed)
    for _ in range(many):
        capacity = dice.choice((0, 1, 2, 3, 5, 8, 20, 1000))
        most = dice.choice((1, 3, 9, 30))
        inflows = tuple(dice.randint(0, most) for _ in range(dice.choice((1, 2, 2, 3, 3, 4, 5, 7, 12))))
        ends = (0, capacity, dice.randint(0, capacity), dice.randint(0, capacity))
        yield capacity, dice.choice((0, capacity, dice.randint(0, capacity))), dice.choice(ends), inflows


def some_demands(dam, seed):
    """Demands for a dam that it can give sometimes."""
    dice = random.Random(seed)
    most = dice.choice((1, 4, 9, 40))
    return tuple(dice.choice((0, dice.randint(0, most), dice.randint(0, most))) for _ in dam[3])


def fraction(value):
    """The fraction of a ratio; it fails for what is no ratio."""
    top, bottom = value
    found = Fraction(top, bottom)
    assert same(value, (found.numerator, found.denominator)), value
    return found


# Values that are no ratios.
BAD_RATIOS = (
    None, True, False, 0, 1, 5, "1/2", "12", (), (1,), (1, 2, 3), [1, 2], {1: 2}, (2, 4), (0, 2), (5, 5), (0, 0), (1, 0),
    (1, -2), (0, -1), (-1, -2), (True, 2), (1, True), (False, 1), (None, 1), (1, None), ("1", 2), (1, "2"), ((1,), 2),
    ([1], [2]), ((1, 2), 1), ((0, 1), (1, 1)),
)


def near_ratios(row):
    """Values that look like a tuple of ratios and are none."""
    found = [list(row), dict(enumerate(row)), str(row), row + (None,), row + (0,), (row,), row[0]]
    for place in sorted({0, len(row) // 2, len(row) - 1}):
        top, bottom = row[place]
        for one in (
            (2 * top, 2 * bottom), (-top, -bottom), (top, 0), [top, bottom], {top: bottom}, top, str(top), None,
            (top, bottom, 1), (top,), (bool(top), bottom), (top, True), (str(top), bottom), (top, None), ((top,), bottom),
        ):
            found.append(row[:place] + (one,) + row[place + 1:])
    return found


def ratios(row):
    """The tuple of the ratios of some fractions or integers."""
    return tuple((Fraction(one).numerator, Fraction(one).denominator) for one in row)


def fractions(row):
    """The fractions of a tuple of ratios; it fails for what is no such tuple."""
    assert isinstance(row, tuple), row
    return [fraction(one) for one in row]


def half_plans(dam):
    """All plans of halves of integers, as fractions."""
    capacity, start, end, inflows = dam
    plans = [((), 2 * start)]
    for inflow in inflows:
        plans = [
            (plan + (Fraction(release, 2),), held + 2 * inflow - release)
            for plan, held in plans
            for release in range(held + 2 * inflow + 1)
            if held + 2 * inflow - release <= 2 * capacity
        ]
    return [plan for plan, held in plans if held >= 2 * end]


def some_plan(dam, dice):
    """A plan of a dam with some halves and thirds, as fractions, None if the dam has none."""
    capacity, held, end, inflows = dam
    if not has_plan(dam):
        return None
    plan = []
    for month, inflow in enumerate(inflows):
        there = held + inflow
        # What must be held behind this month for the end, if nothing is released later.
        needed = max(0, end - sum(inflows[month + 1:]))
        most = there - needed
        least = max(Fraction(0), Fraction(there - capacity))
        step = Fraction(1, dice.choice((1, 1, 2, 3)))
        plan.append(dice.choice((least, most, min(most, least + step * dice.randint(0, 9)))))
        held = there - plan[-1]
    return tuple(map(Fraction, plan))


def worth_of(pairs, release):
    """What a release, a half of an integer, is worth, half a unit by half a unit."""
    prices = [price for amount, price in pairs for _ in range(2 * amount)]
    return sum((Fraction(price, 2) for price in prices[:int(2 * release)]), Fraction(0))


def some_worths(months, dice, most, pairs=3):
    """Worths for so many months."""
    found = []
    for _ in range(months):
        prices = sorted(dice.sample(range(1, most + 3), dice.randint(0, pairs)), reverse=True)
        found.append(tuple((dice.randint(1, most), price) for price in prices))
    return tuple(found)
