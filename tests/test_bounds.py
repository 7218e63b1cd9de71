"""Point 19: plans between floors and ceilings."""

import itertools
import random
import unittest

from damworks.bounds import bounded_paper, bounded_plan, shows_bounded
from damworks.dams import levels
from tests.helpers import (
    BAD_DAMS, BAD_DEMANDS, DAM, JUST_PLAN_DAMS, KINDS, NO_PLAN_DAMS, check_refused, check_shows, error_of, near_pairs,
    some_dams, water_of_window, windows,
)

FLOORS, CEILINGS = (2, 2), (4, 9)
FUNCTIONS = ((bounded_plan, ()), (bounded_paper, ()), (shows_bounded, (None,)))


def has_bounded_plan(dam, floors, ceilings):
    """Whether there is a plan of integers, by all levels that can be held."""
    capacity, start, end, inflows = dam
    held = {start}
    for inflow, floor, ceiling in zip(inflows, floors, ceilings):
        held = {
            before + inflow - release
            for before in held for release in range(floor, ceiling + 1)
            if 0 <= before + inflow - release <= capacity
        }
    return any(level >= end for level in held)


def right_papers(dam, floors, ceilings):
    """All values that are papers, by the words of the point."""
    capacity, start, end, inflows = dam
    if has_bounded_plan(dam, floors, ceilings):
        return [None]
    found = []
    for first, last in windows(len(inflows)):
        if sum(floors[first:last + 1]) > water_of_window(dam, first, last, end):
            found.append(("dry", first, last))
        come = sum(inflows[first:last + 1]) + (start if first == 0 else 0)
        if come - sum(ceilings[first:last + 1]) > capacity:
            found.append(("wet", first, last))
    return found


def some_bounds(dam, dice):
    """Floors and ceilings for a dam."""
    most = dice.choice((1, 3, 9, 30))
    floors = tuple(dice.choice((0, dice.randint(0, most))) for _ in dam[3])
    wider = dice.choice((0, 2, 9))
    return floors, tuple(floor + dice.randint(0, wider) for floor in floors)


class BoundsTest(unittest.TestCase):
    def check_answers(self, dam, floors, ceilings):
        right = right_papers(dam, floors, ceilings)
        plan, paper = bounded_plan(dam, floors, ceilings), bounded_paper(dam, floors, ceilings)
        self.assertIn(paper, right)
        self.assertIs(shows_bounded(dam, floors, ceilings, paper), True)
        self.assertEqual(plan is None, right != [None])
        if plan is not None:
            self.assertEqual(len(levels(dam, plan)), len(floors))
            for (top, bottom), floor, ceiling in zip(plan, floors, ceilings):
                self.assertEqual((bottom, floor <= top <= ceiling), (1, True))
        return "plan" if paper is None else paper[0]

    def test_examples(self):
        self.assertEqual(bounded_plan(DAM, (2, 2), (2, 2)), ((2, 1), (2, 1)))
        self.assertEqual(bounded_paper(DAM, (9, 0), (9, 9)), ("dry", 0, 0))
        self.assertEqual(bounded_paper(DAM, (0, 0), (0, 1)), ("wet", 0, 1))

    def test_against_all_plans(self):
        dice = random.Random(141)
        counts = {"plan": 0, "dry": 0, "wet": 0}
        for dam in some_dams(1200, 141):
            if dam[0] <= 20:
                floors, ceilings = some_bounds(dam, dice)
                with self.subTest(dam=dam, floors=floors, ceilings=ceilings):
                    counts[self.check_answers(dam, floors, ceilings)] += 1
        self.assertGreater(min(counts.values()), 100, counts)

    def test_floors_that_are_their_ceilings(self):
        counts = {"plan": 0, "dry": 0, "wet": 0}
        for capacity, start, one, two in itertools.product((0, 2, 3), range(3), range(6), range(6)):
            if start <= capacity:
                for end in (0, capacity):
                    counts[self.check_answers((capacity, start, end, (2, 1)), (one, two), (one, two))] += 1
        self.assertGreater(min(counts.values()), 20, counts)

    def test_too_dry_and_too_wet(self):
        dam = (2, 0, 0, (0, 9, 0, 0))
        self.assertEqual(bounded_paper(dam, (1, 0, 0, 0), (1, 9, 0, 0)), ("dry", 0, 0))
        self.assertIs(shows_bounded(dam, (1, 0, 0, 0), (1, 3, 0, 0), ("wet", 1, 1)), True)
        self.assertIs(shows_bounded(dam, (1, 0, 0, 0), (1, 3, 0, 0), ("dry", 0, 0)), True)
        self.assertIs(shows_bounded(dam, (1, 0, 0, 0), (1, 3, 0, 0), ("wet", 0, 0)), False)
        self.assertIs(shows_bounded(dam, (1, 0, 0, 0), (1, 3, 0, 0), ("dry", 1, 1)), False)

    def test_edges(self):
        self.assertEqual(bounded_plan((0, 0, 0, (0,)), (0,), (0,)), ((0, 1),))
        self.assertEqual(bounded_plan((0, 0, 0, (7,)), (0,), (1000,)), ((7, 1),))
        self.assertEqual(bounded_paper((0, 0, 0, (7,)), (0,), (6,)), ("wet", 0, 0))
        self.assertEqual(bounded_paper((0, 0, 0, (7,)), (8,), (8,)), ("dry", 0, 0))
        self.assertEqual(bounded_paper((9, 9, 9, (0,)), (1,), (1,)), ("dry", 0, 0))
        self.assertEqual(bounded_plan((1000, 1000, 1000, (1000,) * 12), (0,) * 12, (1000,) * 12), ((1000, 1),) * 12)
        self.check_answers((1000, 500, 0, (1000, 0) * 6), (500,) * 12, (500,) * 12)

    def test_no_error_without_a_plan(self):
        for dam in NO_PLAN_DAMS:
            for floors, ceilings in (((0, 0), (1000, 1000)), ((0, 0), (0, 0)), ((1, 1), (9, 9))):
                with self.subTest(dam=dam, floors=floors):
                    self.assertIsNone(bounded_plan(dam, floors, ceilings))
                    self.check_answers(dam, floors, ceilings)
                    self.assertIs(shows_bounded(dam, floors, ceilings, None), False)
        for dam in JUST_PLAN_DAMS:
            self.assertEqual(self.check_answers(dam, (0, 0), (1000, 1000)), "plan")
            self.assertEqual(self.check_answers(dam, (0, 1), (1000, 1000)), "dry")

    def test_shows(self):
        for dam, floors, ceilings in (
            (DAM, (2, 2), (2, 2)), (DAM, (9, 0), (9, 9)), (DAM, (0, 0), (0, 1)), ((2, 0, 0, (0, 9, 0)), (1, 0, 0), (1, 3, 0)),
            ((2, 1, 2, (3, 1, 0)), (0, 0, 2), (0, 3, 9)), ((3, 3, 0, (1, 1, 1)), (0, 0, 0), (0, 0, 0)),
            ((0, 0, 0, (5,)), (5,), (5,)), ((0, 0, 0, (5,)), (6,), (6,)), (NO_PLAN_DAMS[0], (0, 0), (9, 9)),
        ):
            right = right_papers(dam, floors, ceilings)
            sides = range(-1, len(dam[3]) + 1)
            others = [(kind, first, last) for kind in ("dry", "wet") for first in sides for last in sides]
            for paper in right:
                if paper is not None:
                    kind, first, last = paper
                    others.extend((kind,) + pair for pair in near_pairs((first, last)) if isinstance(pair, tuple))
                    others.extend((kind, pair) for pair in near_pairs((first, last)))
                    others.extend((
                        [kind, first, last], (kind, first), (first, last), (kind, first, last, last), (first, last, kind),
                        (kind.upper(), first, last), (kind + " ", first, last), ("", first, last), ("moist", first, last),
                        (None, first, last), (True, first, last), ((kind,), first, last), ([kind], first, last),
                        (kind, [first], [last]), {kind: (first, last)}, kind, f"{kind} {first} {last}",
                    ))
            check_shows(self, shows_bounded, (dam, floors, ceilings), right, others)

    def test_wrong_arguments(self):
        for dam in (DAM, NO_PLAN_DAMS[0]):
            for function, args in FUNCTIONS:
                args = (dam, FLOORS, CEILINGS) + args
                check_refused(self, function, args, 0, "BadDam", BAD_DAMS)
                check_refused(self, function, args, 1, "BadDemands", BAD_DEMANDS)
                check_refused(self, function, args, 2, "BadDemands", BAD_DEMANDS + ((1, 9), (4, 1), (0, 0)))
        kinds = [value for value in KINDS if repr(value) != "(1, 2)"]
        check_refused(self, bounded_plan, (DAM, FLOORS, CEILINGS), 1, "BadDemands", kinds)
        check_refused(self, bounded_plan, (DAM, FLOORS, CEILINGS), 2, "BadDemands", KINDS)

    def test_one_ceiling_may_be_its_floor(self):
        self.assertIsNone(error_of(bounded_plan, DAM, (2, 3), (2, 9)))
        self.assertEqual(error_of(bounded_plan, DAM, (2, 3), (2, 2)), ("BadDemands", {}))


if __name__ == "__main__":
    unittest.main()
