"""What several tests need: values of every kind, and how errors are looked at."""

import copy

from damworks.errors import DamError

KINDS = (
    True, False, None, 0, 1, -1, 7, 1001, 10 ** 30, "", "5", "10 5 0 : 3", (), [], {}, (None,), (True,), (0,), [0],
    (1, 2), [1, 2], {0: 1}, {"a": (1, 2)}, ((),), ([],), ({},), ("a", "b"), (0, 1, 2, 3), ((0, 1), (1, 1)),
    ((1, 1),), ((0, 0), (0, 0)), (True, False), (0, None), (None, 0), ((0, 1), [1, 1]), {"first": 0, "last": 1},
)

DAM = (10, 5, 0, (3, 4))

BAD_INFLOWS = (
    None, 3, "34", (), [3, 4], {0: 3}, (3, True), (False,), (3, None), (3, "4"), (3, (4,)), (3, -1), (1001,),
    (1,) * 13, ((3, 4),), True,
)

BAD_DAMS = (
    None, True, 5, "10 5 0 : 3 4", (), [10, 5, 0, (3, 4)], {0: 10}, (10, 5, 0), (10, 5, 0, (3, 4), 1),
    (True, 0, 0, (3,)), (1, True, 0, (3,)), (1, 0, False, (3,)), (-1, 0, 0, (3,)), (1001, 0, 0, (3,)),
    (10, -1, 0, (3,)), (10, 11, 0, (3,)), (10, 0, -1, (3,)), (10, 0, 11, (3,)), ("10", 5, 0, (3,)),
    (10, None, 0, (3,)), (10, 5, (0,), (3,)), ((10,), 5, 0, (3,)), (None, None, None, None),
) + tuple((10, 5, 0, inflows) for inflows in BAD_INFLOWS)

BAD_DEMANDS = (
    None, True, 3, "34", (), [3, 4], {0: 3}, (3,), (3, 4, 5), (3, True), (False, 0), (3, None), (3, "4"), (3, (4,)),
    (3, -1), (1001, 0), ((3, 1), (4, 1)),
)


def error_of(function, *args):
    """The name and the fields of the error that a call raises, None if it raises none of the package's errors."""
    try:
        function(*args)
    except DamError as error:
        return type(error).__name__, dict(vars(error))
    return None


def check_refused(test, function, args, place, name, values, **fields):
    """Each of the values, in the place of one argument, is refused by the named error, whatever stands behind it."""
    for value in values:
        behind = [args[place + 1:]] + [(wrong,) * len(args[place + 1:]) for wrong in (None, "x", [])]
        for rest in behind:
            given = tuple(args[:place]) + (value,) + tuple(rest)
            with test.subTest(function=function.__name__, given=given):
                before = copy.deepcopy(given)
                test.assertEqual(error_of(function, *given), (name, fields))
                test.assertEqual(given, before)


def check_shows(test, function, args, right, others=()):
    """Of values of every kind and the others, the function shows just the right ones."""
    wrong = tuple(value for value in KINDS if value is not None) + tuple(others)
    for value in wrong + (None,):
        with test.subTest(function=function.__name__, args=args, value=value):
            before = copy.deepcopy(value)
            expected = any(same(value, one) for one in right)
            test.assertIs(function(*args, value), expected)
            test.assertEqual(value, before)
    for value in right:
        with test.subTest(function=function.__name__, args=args, value=value):
            test.assertIs(function(*args, value), True)


def same(one, other):
    """Whether two values are equal and of the same kinds throughout, so that True is not 1."""
    return repr(one) == repr(other)


def near_pairs(pair):
    """Values that look like a pair of integers and are none."""
    first, second = pair
    return (
        [first, second], (first, second, 0), (first,), {first: second}, (str(first), second), (first, None),
        ((first,), second), (first, (second, 1)), (bool(first), second), (first, bool(second)), first, str(pair),
        (first - 20, second), (first, second - 20), (first + 20, second), (first, second + 20),
    )


def windows(count):
    """All pairs (first, last) of months."""
    return [(first, last) for first in range(count) for last in range(first, count)]
