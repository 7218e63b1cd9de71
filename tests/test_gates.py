"""Point 17: gates."""

import itertools
import random
import unittest

from damworks.gates import gate_plan
from damworks.worths import best_worth
from tests.helpers import (
    BAD_DAMS, BAD_WORTHS, DAM, JUST_PLAN_DAMS, KINDS, NO_PLAN_DAMS, WORTHS, check_refused, error_of, has_plan, some_worths,
    worth_of,
)

GATE = (1, 2, 3)

BAD_GATES = tuple(value for value in KINDS) + (
    [1, 2, 3], (1, 2), (1, 2, 3, 4), {1: 2}, (True, 2, 3), (1, True, 3), (1, 2, False), (0, 2, 3), (3, 2, 3), (1, 51, 3),
    (51, 51, 3), (1, 2, -1), (1, 2, 1001), (-1, 2, 3), (1, 0, 0), ("1", 2, 3), (1, "2", 3), (1, 2, "3"), (None, 2, 3),
    (1, None, 3), (1, 2, None), ((1,), 2, 3), (1, (2,), 3), (1, 2, (3,)), (1, 10 ** 30, 3), (10 ** 30, 10 ** 30, 0),
)


def gate_plan_another_way(dam, worths, gate):
    """The answer by all ways; None if none holds the end."""
    capacity, start, end, inflows = dam
    least, most, cost = gate
    found = []
    for way in itertools.product([0] + list(range(least, most + 1)), repeat=len(inflows)):
        held, total, before = start, 0, 0
        for inflow, pairs, through in zip(inflows, worths, way):
            held += inflow - through
            if held < 0:
                break
            held = min(held, capacity)
            total += int(worth_of(pairs, through))
            if through > 0 and before == 0:
                total -= cost
            before = through
        else:
            if held >= end:
                found.append((-total, way))
    return (-min(found)[0], min(found)[1]) if found else None


def some_gates(many, seed):
    """Small dams with worths and gates."""
    dice = random.Random(seed)
    for _ in range(many):
        capacity = dice.randint(0, 6)
        months = dice.choice((1, 2, 3, 4, 5))
        inflows = tuple(dice.choice((0, dice.randint(0, 5))) for _ in range(months))
        ends = (0, 0, capacity, dice.randint(0, capacity))
        dam = (capacity, dice.randint(0, capacity), dice.choice(ends), inflows)
        least = dice.randint(1, 4)
        gate = (least, least + dice.randint(0, 3), dice.choice((0, 1, 2, 5, 1000)))
        yield dam, some_worths(months, dice, dice.choice((2, 5, 9))), gate


class GateTest(unittest.TestCase):
    def test_example(self):
        self.assertEqual(gate_plan((5, 2, 0, (1, 1)), (((1, 5),), ((2, 4),)), (1, 2, 3)), (10, (1, 2)))

    def test_against_all_ways(self):
        without = gaps = 0
        for dam, worths, gate in some_gates(800, 121):
            with self.subTest(dam=dam, worths=worths, gate=gate):
                expected = gate_plan_another_way(dam, worths, gate)
                self.assertEqual(expected is not None, has_plan(dam))
                if expected is None:
                    without += 1
                    self.assertEqual(error_of(gate_plan, dam, worths, gate), ("NoPlan", {}))
                else:
                    self.assertEqual(repr(gate_plan(dam, worths, gate)), repr(expected))
                    marks = "".join("01"[through > 0] for through in expected[1])
                    gaps += "101" in marks or "1001" in marks
        self.assertGreater(without, 30)
        self.assertGreater(gaps, 20)

    def test_a_gate_that_costs_nothing(self):
        # It is then as good as the best plan, as far as it opens wide enough.
        dice = random.Random(122)
        for _ in range(100):
            dam = (dice.randint(0, 20), 0, 0, tuple(dice.randint(0, 9) for _ in range(dice.randint(1, 6))))
            worths = some_worths(len(dam[3]), dice, 9)
            self.assertEqual(gate_plan(dam, worths, (1, 50, 0))[0], best_worth(dam, worths))

    def test_closed_between_two_open_months(self):
        dam, worths = (9, 5, 0, (0, 0, 0)), (((1, 9),), ((1, 1),), ((1, 9),))
        self.assertEqual(gate_plan(dam, worths, (1, 5, 0)), (19, (1, 1, 1)))
        self.assertEqual(gate_plan(dam, worths, (1, 5, 5)), (14, (1, 1, 1)))
        self.assertEqual(gate_plan(dam, (((1, 9),), (), ((1, 9),)), (2, 5, 0)), (18, (2, 0, 2)))
        self.assertEqual(gate_plan(dam, (((1, 9),), (), ((1, 9),)), (2, 5, 5)), (8, (2, 0, 2)))
        self.assertEqual(gate_plan((9, 6, 0, (0, 0, 0)), (((1, 9),), (), ((1, 9),)), (2, 5, 5)), (13, (2, 2, 2)))
        self.assertEqual(gate_plan(dam, (((1, 9),), (), ((1, 9),)), (2, 5, 9)), (0, (0, 0, 0)))
        self.assertEqual(gate_plan(dam, (((1, 9),), (), ((1, 9),)), (2, 5, 8)), (2, (2, 0, 2)))

    def test_edges(self):
        self.assertEqual(gate_plan((0, 0, 0, (0,)), ((),), (1, 1, 0)), (0, (0,)))
        self.assertEqual(gate_plan((0, 0, 0, (3,)), (((9, 4),),), (3, 3, 11)), (1, (3,)))
        self.assertEqual(gate_plan((0, 0, 0, (3,)), (((9, 4),),), (3, 3, 12)), (0, (0,)))
        self.assertEqual(gate_plan((0, 0, 0, (3,)), (((9, 4),),), (4, 5, 0)), (0, (0,)))
        self.assertEqual(gate_plan((0, 0, 0, (90,)), (((60, 4),),), (1, 50, 0)), (200, (50,)))
        self.assertEqual(gate_plan((0, 0, 0, (90,)), (((10, 4),),), (20, 50, 0)), (40, (20,)))
        self.assertEqual(gate_plan((4, 0, 4, (2, 2)), (((9, 4),),) * 2, (1, 9, 0)), (0, (0, 0)))
        # What is above the capacity is spilled only when the gate has let its water through.
        self.assertEqual(gate_plan((4, 4, 4, (3,)), (((9, 4),),), (1, 9, 0)), (12, (3,)))

    def test_forty_and_six_are_the_most(self):
        worths = (((50, 3), (9, 1)),) * 6
        self.assertEqual(gate_plan((40, 40, 0, (40,) * 6), worths, (1, 50, 100)), (740, (40,) * 2 + (50,) * 4))
        self.assertEqual(gate_plan((40, 40, 40, (0,) * 6), worths, (1, 50, 0)), (0, (0,) * 6))
        self.assertEqual(error_of(gate_plan, (41, 0, 0, (0,) * 6), worths, GATE), ("TooMany", {"most": 40}))
        self.assertEqual(error_of(gate_plan, (1000, 0, 0, (0,)), ((),), GATE), ("TooMany", {"most": 40}))
        self.assertEqual(error_of(gate_plan, (40, 0, 0, (0,) * 7), ((),) * 7, GATE), ("TooMany", {"most": 6}))
        self.assertEqual(error_of(gate_plan, (0, 0, 0, (0,) * 12), ((),) * 12, GATE), ("TooMany", {"most": 6}))
        self.assertEqual(error_of(gate_plan, (41, 0, 0, (0,) * 7), ((),) * 7, GATE), ("TooMany", {"most": 40}))

    def test_no_plan_comes_before_too_many(self):
        for dam in NO_PLAN_DAMS + ((41, 0, 1, (0,) * 7), (40, 0, 1, (0,) * 7), (41, 0, 1, (0,)), (40, 0, 40, (39,))):
            worths = ((),) * len(dam[3])
            self.assertEqual(error_of(gate_plan, dam, worths, GATE), ("NoPlan", {}))
            self.assertEqual(error_of(gate_plan, dam, worths, None), ("BadGate", {}))
            self.assertEqual(error_of(gate_plan, dam, None, None), ("BadWorths", {"index": None}))

    def test_an_end_that_can_just_be_held(self):
        for dam in JUST_PLAN_DAMS:
            if dam[0] <= 40:
                self.assertEqual(gate_plan(dam, WORTHS, GATE), gate_plan_another_way(dam, WORTHS, GATE))

    def test_wrong_arguments(self):
        check_refused(self, gate_plan, (DAM, WORTHS, GATE), 0, "BadDam", BAD_DAMS)
        for value, index in BAD_WORTHS:
            check_refused(self, gate_plan, (DAM, WORTHS, GATE), 1, "BadWorths", [value], index=index)
        for dam, worths in ((DAM, WORTHS), (NO_PLAN_DAMS[0], WORTHS), ((41, 0, 0, (0,) * 7), ((),) * 7)):
            check_refused(self, gate_plan, (dam, worths, GATE), 2, "BadGate", BAD_GATES)


if __name__ == "__main__":
    unittest.main()
