"""Points 1 and 2 over the whole program: each function of the interface with right and wrong arguments."""

import copy
import importlib
import itertools
import unittest

from damworks.books import Book
from damworks.errors import DamError
from tests.helpers import KINDS, error_of
from tests.test_interface import INTERFACE

DAM = (10, 5, 0, (3, 4))
PLAN = ((8, 1), (4, 1))
WORTHS = (((2, 5), (9, 1)), ((4, 3),))
HOUSE = (5, 2, 3, (1, 2))
SMALL = (5, 2, 0, (1, 1))
RIVER = ((SMALL, 1, 1), (SMALL, None, 0))
RIVER_WORTHS = ((((1, 2),), ()), ((), ((9, 5),)))
TREE = ((None, (1, 1), 1), (0, (1, 2), 0), (0, (1, 2), 1))
TREE_WORTHS = (((1, 1),), ((2, 8),), ((4, 2),))
POND = (2, 1)
CHANCES = ((1, 2), (1, 4), (1, 4))
STORE = (2, ((1, 2), (1, 2)), ((1, 6),))
HALF = (1, 2)

# For each function right arguments and the error of each place; the last argument of those that begin with "shows"
# has none.
CALLS = {
    "levels": ((DAM, PLAN), "BadDam BadPlan"),
    "run": ((DAM, (9, 0)), "BadDam BadDemands"),
    "write_dam": ((DAM,), "BadDam"),
    "read_dam": (("10 5 0 : 3 4",), "NotText"),
    "least_storage": (((1, 5), (3, 2), False), "BadInflows BadDemands BadFlag"),
    "storage_paper": (((1, 5), (3, 2), True), "BadInflows BadDemands BadFlag"),
    "shows_storage": (((1, 5), (3, 2), True, (0, 1)), "BadInflows BadDemands BadFlag"),
    "firm_yield": ((DAM,), "BadDam"),
    "yield_paper": ((DAM,), "BadDam"),
    "shows_yield": ((DAM, (0, 1)), "BadDam"),
    "firm_share": ((DAM, (1, 3)), "BadDam BadDemands"),
    "round_yield": ((2, (1, 5)), "BadCapacity BadInflows"),
    "total_lack": ((DAM, (9, 6)), "BadDam BadDemands"),
    "least_lack": ((DAM, (9, 6)), "BadDam BadDemands"),
    "lack_paper": ((DAM, (9, 6)), "BadDam BadDemands"),
    "shows_lack": ((DAM, (9, 6), (0, 1)), "BadDam BadDemands"),
    "fewest_failures": ((DAM, (9, 6)), "BadDam BadDemands"),
    "plan_worth": ((DAM, WORTHS, PLAN), "BadDam BadWorths BadPlan"),
    "best_worth": ((DAM, WORTHS), "BadDam BadWorths"),
    "best_plan": ((DAM, WORTHS), "BadDam BadWorths"),
    "shows_best": ((DAM, WORTHS, PLAN), "BadDam BadWorths"),
    "water_prices": ((DAM, WORTHS), "BadDam BadWorths"),
    "shows_prices": ((DAM, WORTHS, (1, 1)), "BadDam BadWorths"),
    "worth_of_water": ((DAM, WORTHS, 0), "BadDam BadWorths BadMonth"),
    "worth_of_room": ((DAM, WORTHS), "BadDam BadWorths"),
    "even_plan": ((DAM,), "BadDam"),
    "shows_even": ((DAM, ((6, 1), (6, 1))), "BadDam"),
    "least_peak": (((4, 4, 0, (3, 9)),), "BadDam"),
    "peak_paper": (((4, 4, 0, (3, 9)),), "BadDam"),
    "shows_peak": (((4, 4, 0, (3, 9)), (0, 1)), "BadDam"),
    "is_evener": ((((1, 1), (3, 1)), ((0, 1), (4, 1))), "BadNumbers BadNumbers"),
    "leak_run": ((DAM, HALF, (2, 1)), "BadDam BadLoss BadSize"),
    "leak_yield": ((DAM, HALF), "BadDam BadLoss"),
    "leak_paper": ((DAM, HALF), "BadDam BadLoss"),
    "shows_leak": ((DAM, HALF, (0, 1)), "BadDam BadLoss"),
    "pump_profit": ((HOUSE, (1, 9)), "BadHouse BadPrices"),
    "pump_plan": ((HOUSE, (1, 9)), "BadHouse BadPrices"),
    "basin_values": ((HOUSE, (1, 9)), "BadHouse BadPrices"),
    "shows_pumping": ((HOUSE, (1, 9), (((2, 1), (0, 1)), ((0, 1), (2, 1)))), "BadHouse BadPrices"),
    "shows_values": ((HOUSE, (1, 9), ((9, 2), (9, 2))), "BadHouse BadPrices"),
    "river_worth": ((RIVER, RIVER_WORTHS), "BadRiver BadRiverWorths"),
    "river_plan": ((RIVER, RIVER_WORTHS), "BadRiver BadRiverWorths"),
    "river_prices": ((RIVER, RIVER_WORTHS), "BadRiver BadRiverWorths"),
    "shows_river": ((RIVER, RIVER_WORTHS, (PLAN, PLAN)), "BadRiver BadRiverWorths"),
    "shows_river_prices": ((RIVER, RIVER_WORTHS, ((1, 1), (5, 5))), "BadRiver BadRiverWorths"),
    "tree_worth": ((TREE, (5, 2, 0), TREE_WORTHS), "BadFutures BadHolder BadWorths"),
    "knowing_worth": ((TREE, (5, 2, 0), TREE_WORTHS), "BadFutures BadHolder BadWorths"),
    "tree_plan": ((TREE, (5, 2, 0), TREE_WORTHS), "BadFutures BadHolder BadWorths"),
    "tree_prices": ((TREE, (5, 2, 0), TREE_WORTHS), "BadFutures BadHolder BadWorths"),
    "shows_tree": ((TREE, (5, 2, 0), TREE_WORTHS, ((1, 1),) * 3), "BadFutures BadHolder BadWorths"),
    "shows_tree_prices": ((TREE, (5, 2, 0), TREE_WORTHS, ((1, 1),) * 3), "BadFutures BadHolder BadWorths"),
    "pond_steps": ((POND, CHANCES, 0, 1), "BadPond BadChances BadLevel BadMonths"),
    "settled": ((POND, CHANCES), "BadPond BadChances"),
    "round_settled": ((POND, (CHANCES, CHANCES)), "BadPond BadRound"),
    "failing_share": ((POND, CHANCES), "BadPond BadChances"),
    "mean_given": ((POND, CHANCES), "BadPond BadChances"),
    "mean_spilled": ((POND, CHANCES), "BadPond BadChances"),
    "mean_wait": ((POND, CHANCES, 0), "BadPond BadChances BadLevel"),
    "spill_first": ((POND, CHANCES, 1), "BadPond BadChances BadLevel"),
    "pair_chance": ((POND, CHANCES, 0, 1, 3), "BadPond BadChances BadLevel BadLevel BadMonths"),
    "least_capacity": ((1, CHANCES, (1, 3)), "BadRelease BadChances BadShare"),
    "gate_plan": ((SMALL, (((1, 5),), ((2, 4),)), (1, 2, 3)), "BadDam BadWorths BadGate"),
    "flood_curve": ((5, 1, (3, 4)), "BadCapacity BadCapacity BadInflows"),
    "fill_curve": ((DAM, (9, 6)), "BadDam BadDemands"),
    "spells": (((1, 5, 0, 0), 2), "BadInflows BadLevel"),
    "yield_curve": (((1, 5), 2), "BadInflows BadCapacity"),
    "bounded_plan": ((DAM, (2, 2), (2, 2)), "BadDam BadDemands BadDemands"),
    "bounded_paper": ((DAM, (9, 0), (9, 9)), "BadDam BadDemands BadDemands"),
    "shows_bounded": ((DAM, (9, 0), (9, 9), ("dry", 0, 0)), "BadDam BadDemands BadDemands"),
    "salt_run": ((DAM, PLAN, (3, 0), 6), "BadDam BadPlan BadSalts BadSalt"),
    "salt_left": ((DAM, PLAN, (3, 0), 6), "BadDam BadPlan BadSalts BadSalt"),
    "market": ((DAM, (WORTHS, WORTHS)), "BadDam BadUsers"),
    "shows_market": ((DAM, (WORTHS,), ((1, 1), (PLAN,), ((0, 1), (0, 1)))), "BadDam BadUsers"),
    "leak_worth": ((DAM, HALF, WORTHS), "BadDam BadLoss BadWorths"),
    "leak_plan": ((DAM, HALF, WORTHS), "BadDam BadLoss BadWorths"),
    "leak_prices": ((DAM, HALF, WORTHS), "BadDam BadLoss BadWorths"),
    "shows_leak_plan": ((DAM, HALF, WORTHS, PLAN), "BadDam BadLoss BadWorths"),
    "shows_leak_prices": ((DAM, HALF, WORTHS, PLAN), "BadDam BadLoss BadWorths"),
    "joint_yield": ((SMALL, DAM), "BadDam BadDam"),
    "joint_plan": ((SMALL, DAM), "BadDam BadDam"),
    "joint_paper": ((SMALL, DAM), "BadDam BadDam"),
    "shows_joint": ((SMALL, DAM, (0,)), "BadDam BadDam"),
    "round_worth": ((5, (4, 0), WORTHS), "BadCapacity BadInflows BadWorths"),
    "round_prices": ((5, (4, 0), WORTHS), "BadCapacity BadInflows BadWorths"),
    "shows_round": ((5, (4, 0), WORTHS, (2, 2)), "BadCapacity BadInflows BadWorths"),
    "ages": ((DAM, PLAN), "BadDam BadPlan"),
    "oldest": ((DAM, PLAN), "BadDam BadPlan"),
    "write_river": ((RIVER,), "BadRiver"),
    "read_river": (("5 2 0 : 1 1 > 1 1 / 5 2 0 : 1 1 > - 0",), "NotText"),
    "best_mean": (STORE, "BadStore BadChances BadPieces"),
    "policy_shares": (STORE, "BadStore BadChances BadPieces"),
    "policy_values": (STORE, "BadStore BadChances BadPieces"),
    "shows_shares": (STORE + (((0, 0, HALF), (1, 1, HALF)),), "BadStore BadChances BadPieces"),
    "shows_policy_values": (STORE + (((0, 1), (6, 1), (12, 1)),), "BadStore BadChances BadPieces"),
}


def functions():
    """Each function of the interface with right arguments and the errors of its places."""
    for module, listed in INTERFACE.items():
        for entry in listed.replace("\n", " ").split(")")[:-1]:
            name = entry.strip().split("(")[0]
            args, errors = CALLS[name]
            yield getattr(importlib.import_module("damworks." + module), name), args, errors.split()


def is_plain(value):
    """Whether a value is made of integers, strings, booleans, None and tuples alone, so that nothing can change it."""
    if isinstance(value, tuple):
        return all(is_plain(one) for one in value)
    return value is None or type(value) in (int, str, bool)


def filled_with(arg, value):
    """A value as long as an argument and made of one value alone."""
    return (value,) * len(arg) if isinstance(arg, tuple) else (value, arg)


class WholeTest(unittest.TestCase):
    def test_all_functions_are_here(self):
        found = list(functions())
        self.assertEqual({function.__name__ for function, _, _ in found}, set(CALLS))
        for function, args, errors in found:
            places = len(args) - function.__name__.startswith("shows")
            self.assertEqual(len(errors), places, function.__name__)

    def test_equal_arguments_have_equal_answers(self):
        for function, args, _ in functions():
            with self.subTest(function.__name__):
                before = copy.deepcopy(args)
                answer = function(*args)
                self.assertTrue(is_plain(answer))
                self.assertEqual(args, before)
                self.assertEqual(repr(function(*copy.deepcopy(args))), repr(answer))
                if function.__name__.startswith("shows"):
                    self.assertIs(type(answer), bool)

    def test_values_of_every_kind_in_each_place(self):
        for function, args, errors in functions():
            for place, name in enumerate(errors):
                for value in KINDS:
                    given = args[:place] + (copy.deepcopy(value),) + args[place + 1:]
                    found = error_of(function, *given)
                    with self.subTest(function=function.__name__, place=place, value=value):
                        self.assertEqual(repr(given[place]), repr(value))
                        # The text that the kinds hold ends too early or names a dam.
                        if found is not None and found[0] not in ("InvalidText", "TooMany", "NoPlan", "Unsettled"):
                            self.assertIn(found[0], errors[place:], found)

    def test_the_leftmost_error_is_raised(self):
        for function, args, errors in functions():
            for first in range(len(errors)):
                for wrong in (None, {"a": [1]}, ([],), [()]):
                    for some in itertools.product((False, True), repeat=len(errors) - first - 1):
                        behind = [wrong if is_wrong else arg for is_wrong, arg in zip(some, args[first + 1:])]
                        given = (*args[:first], wrong, *behind, *args[len(errors):])
                        with self.subTest(function=function.__name__, given=given):
                            before = copy.deepcopy(given)
                            self.assertEqual(error_of(function, *given)[0], errors[first])
                            self.assertEqual(given, before)

    def test_shows_takes_any_value(self):
        for function, args, _ in functions():
            if function.__name__.startswith("shows"):
                for value in KINDS + (args, [args], {"a": args}, (((),),) * 3, ("dry", "wet", 0), ("dry", True, 0)):
                    with self.subTest(function=function.__name__, value=value):
                        self.assertIs(type(function(*args[:-1], value)), bool)

    def test_errors_of_the_package_alone(self):
        for function, args, errors in functions():
            for place in range(len(errors)):
                for value in KINDS:
                    for wrong in ((value, value), filled_with(args[place], value)):
                        # Python's own errors would come through here.
                        error_of(function, *args[:place], wrong, *args[place + 1:])

    def test_a_book_raises_errors_of_the_package_alone(self):
        for one, other in itertools.product(KINDS, repeat=2):
            book = Book(5, 2)
            for call in (Book, book.month):
                try:
                    call(one, other)
                except DamError as error:
                    self.assertIn(type(error).__name__, ("BadCapacity", "BadStart", "BadFlow", "TooLittle"))
                    self.assertEqual(book.months(), ())


if __name__ == "__main__":
    unittest.main()
