"""The interface: each function stands in its own file, with its arguments."""

import importlib
import inspect
import unittest

from damworks.books import Book

INTERFACE = {
    "dams": "levels(dam, plan) run(dam, demands)",
    "damtext": "write_dam(dam) read_dam(text)",
    "storages": """least_storage(inflows, demands, is_round) storage_paper(inflows, demands, is_round)
        shows_storage(inflows, demands, is_round, value)""",
    "yields": """firm_yield(dam) yield_paper(dam) shows_yield(dam, value) firm_share(dam, demands)
        round_yield(capacity, inflows)""",
    "lacks": """total_lack(dam, demands) least_lack(dam, demands) lack_paper(dam, demands)
        shows_lack(dam, demands, value) fewest_failures(dam, demands)""",
    "worths": """plan_worth(dam, worths, plan) best_worth(dam, worths) best_plan(dam, worths)
        shows_best(dam, worths, value)""",
    "prices": """water_prices(dam, worths) shows_prices(dam, worths, value) worth_of_water(dam, worths, month)
        worth_of_room(dam, worths)""",
    "evens": """even_plan(dam) shows_even(dam, value) least_peak(dam) peak_paper(dam) shows_peak(dam, value)
        is_evener(one, other)""",
    "leaks": """leak_run(dam, loss, size) leak_yield(dam, loss) leak_paper(dam, loss)
        shows_leak(dam, loss, value)""",
    "pumps": """pump_profit(house, prices) pump_plan(house, prices) basin_values(house, prices)
        shows_pumping(house, prices, value) shows_values(house, prices, value)""",
    "rivers": """river_worth(river, worths) river_plan(river, worths) river_prices(river, worths)
        shows_river(river, worths, value) shows_river_prices(river, worths, value)""",
    "futures": """tree_worth(futures, holder, worths) knowing_worth(futures, holder, worths)
        tree_plan(futures, holder, worths) tree_prices(futures, holder, worths)
        shows_tree(futures, holder, worths, value) shows_tree_prices(futures, holder, worths, value)""",
    "ponds": """pond_steps(pond, chances, level, months) settled(pond, chances) round_settled(pond, some)
        failing_share(pond, chances) mean_given(pond, chances) mean_spilled(pond, chances)
        mean_wait(pond, chances, level) spill_first(pond, chances, level)
        pair_chance(pond, chances, first, second, months) least_capacity(release, chances, share)""",
    "gates": "gate_plan(dam, worths, gate)",
    "curves": """flood_curve(capacity, outlet, inflows) fill_curve(dam, demands) yield_curve(inflows, most)
        spells(inflows, level)""",
    "bounds": """bounded_plan(dam, floors, ceilings) bounded_paper(dam, floors, ceilings)
        shows_bounded(dam, floors, ceilings, value)""",
    "salts": "salt_run(dam, plan, salts, first) salt_left(dam, plan, salts, first)",
    "markets": "market(dam, users) shows_market(dam, users, value)",
    "leakworths": """leak_worth(dam, loss, worths) leak_plan(dam, loss, worths) leak_prices(dam, loss, worths)
        shows_leak_plan(dam, loss, worths, value) shows_leak_prices(dam, loss, worths, value)""",
    "joints": """joint_yield(one, other) joint_plan(one, other) joint_paper(one, other)
        shows_joint(one, other, value)""",
    "rounds": """round_worth(capacity, inflows, worths) round_prices(capacity, inflows, worths)
        shows_round(capacity, inflows, worths, value)""",
    "ages": "ages(dam, plan) oldest(dam, plan)",
    "rivertext": "write_river(river) read_river(text)",
    "policies": """best_mean(capacity, chances, pieces) policy_shares(capacity, chances, pieces)
        policy_values(capacity, chances, pieces) shows_shares(capacity, chances, pieces, value)
        shows_policy_values(capacity, chances, pieces, value)""",
}

BOOK = """__init__(self, capacity, start) month(self, inflow, release) held(self) months(self) totals(self) lowest(self)
    highest(self) undo(self)"""


class InterfaceTest(unittest.TestCase):
    def test_names_and_arguments(self):
        for name, listed in INTERFACE.items():
            module = importlib.import_module("damworks." + name)
            for entry in listed.replace("\n", " ").split(")")[:-1]:
                word, arguments = entry.strip().split("(")
                with self.subTest(module=name, function=word):
                    function = getattr(module, word)
                    self.assertTrue(inspect.isfunction(function))
                    self.assertEqual(function.__module__, "damworks." + name)
                    self.assertEqual(str(inspect.signature(function)), f"({arguments})")

    def test_the_class_of_books(self):
        self.assertTrue(inspect.isclass(Book))
        self.assertEqual(Book.__module__, "damworks.books")
        for entry in BOOK.replace("\n", " ").split(")")[:-1]:
            word, arguments = entry.strip().split("(")
            with self.subTest(word):
                # Each method is defined in the class itself.
                self.assertEqual(str(inspect.signature(vars(Book)[word])), f"({arguments})")


if __name__ == "__main__":
    unittest.main()
