"""Points 38 to 40: plans, their costs, the cheapest plan."""

import copy
import random
import time
import unittest

from cases import (
    FOUR_RATES, ONE_RATE, PLAIN, SMALLEST, all_rows, random_breaks, random_run, slow_least, slow_row_cost, small_tariff,
)
from ebbkeep.costs import run_cost
from ebbkeep.plans import cheapest, cheapest_cost, fits, plan_cost


def slow_fits(tariff, prices, needs, breaks, plan):
    """Look each row up among all rows that a machine can have."""
    known = [list(row) for row, _ in all_rows(tariff, prices, breaks)]
    if not all(row in known for row in plan):
        return False
    return all(sum(row[t] == 0 for row in plan) >= needs[t] for t in range(len(needs)))


class Cheapest(unittest.TestCase):
    def test_one_row_for_each_lane(self):
        self.assertEqual(cheapest(PLAIN, [1, 1, 1], [1, 3, 2], []), [[0, 0, 0], [2, 0, 0], [2, 0, 2]])

    def test_off_before_and_behind(self):
        self.assertEqual(cheapest(PLAIN, [1] * 5, [0, 0, 1, 0, 0], []), [[2, 2, 0, 2, 2]])

    def test_the_idle_state_for_the_whole_gap(self):
        for total, state in ((1, 1), (12, 1), (13, 2), (100, 2)):
            self.assertEqual(cheapest(PLAIN, [7, total, 9], [1, 0, 1], []), [[0, state, 0]])
        self.assertEqual(cheapest(PLAIN, [7, 6, 6, 9], [1, 0, 0, 1], []), [[0, 1, 1, 0]])
        self.assertEqual(cheapest(PLAIN, [7, 6, 7, 9], [1, 0, 0, 1], []), [[0, 2, 2, 0]])
        for total, state in ((1, 0), (2, 1), (5, 1), (6, 2), (16, 2), (17, 3), (60, 3), (61, 4)):
            self.assertEqual(cheapest(FOUR_RATES, [1, total, 1], [1, 0, 1], []), [[0, state, 0]])

    def test_the_least_of_several_states(self):
        self.assertEqual(cheapest(ONE_RATE, [1, 4, 1], [1, 0, 1], []), [[0, 0, 0]])
        self.assertEqual(cheapest(ONE_RATE, [1, 5, 1], [1, 0, 1], []), [[0, 1, 0]])

    def test_each_lane_has_its_own_gaps(self):
        plan = cheapest(ONE_RATE, [1, 3, 3, 1], [2, 0, 1, 2], [])
        self.assertEqual(plan, [[0, 0, 0, 0], [0, 1, 1, 0]])

    def test_a_break_in_a_gap(self):
        for breaks in ([0], [1], [2], [0, 1], [0, 1, 2]):
            self.assertEqual(cheapest(ONE_RATE, [1] * 4, [1, 0, 0, 1], breaks), [[0, 1, 1, 0]])
        for breaks in ([], [3]):
            self.assertEqual(cheapest(ONE_RATE, [1] * 4, [1, 0, 0, 1], breaks), [[0, 0, 0, 0]])

    def test_a_gap_without_a_moment_but_with_a_break(self):
        self.assertEqual(cheapest(ONE_RATE, [1, 1], [1, 1], [0]), [[0, 0]])
        self.assertEqual(plan_cost(ONE_RATE, [1, 1], [0], [[0, 0]]), 50)
        self.assertEqual(plan_cost(ONE_RATE, [1, 1], [], [[0, 0]]), 30)

    def test_a_break_in_one_gap_leaves_the_others(self):
        plan = cheapest(ONE_RATE, [1] * 5, [1, 0, 1, 0, 1], [1])
        self.assertEqual(plan, [[0, 1, 0, 0, 0]])

    def test_nothing_needed_and_no_moments(self):
        self.assertEqual(cheapest(PLAIN, [], [], []), [])
        self.assertEqual(cheapest(PLAIN, [4, 4], [0, 0], [0]), [])
        self.assertEqual(plan_cost(PLAIN, [], [], []), 0)

    def test_a_need_of_40(self):
        plan = cheapest(SMALLEST, [1], [40], [])
        self.assertEqual(plan, [[0]] * 40)
        self.assertEqual(plan_cost(SMALLEST, [1], [], plan), 80)

    def test_against_all_ways_of_all_machines(self):
        chance = random.Random(40)
        for _ in range(250):
            tariff, prices, needs, breaks = run = random_run(chance, 5, chance.choice([1, 2]))
            plan = cheapest(*run)
            self.assertEqual(len(plan), max(needs, default=0))
            self.assertTrue(fits(*run, plan))
            least = slow_least(*run, max(needs, default=0) + 1)
            self.assertEqual(plan_cost(tariff, prices, breaks, plan), least)
            self.assertEqual(cheapest_cost(*run), least)

    def test_against_all_ways_of_three_machines(self):
        chance = random.Random(41)
        for _ in range(40):
            run = random_run(chance, 4, 3)
            self.assertEqual(cheapest_cost(*run), slow_least(*run, 3))

    def test_the_rule_costs_at_most_twice_as_much(self):
        chance = random.Random(42)
        worst = 0
        for _ in range(400):
            run = random_run(chance, 30, 8)
            least = cheapest_cost(*run)
            self.assertLessEqual(least, run_cost(*run))
            self.assertLessEqual(run_cost(*run), 2 * least)
            worst = max(worst, run_cost(*run) * 10 // least if least else 0)
        self.assertGreater(worst, 13)

    def test_the_rule_on_small_runs_against_all_ways(self):
        chance = random.Random(43)
        for _ in range(100):
            run = random_run(chance, 5, 2)
            self.assertLessEqual(run_cost(*run), 2 * slow_least(*run, max(run[2], default=0)))


class Fits(unittest.TestCase):
    def setUp(self):
        self.run_told = (PLAIN, [1, 1, 20, 1], [1, 2, 0, 1], [1])
        self.plan = cheapest(*self.run_told)

    def fits(self, plan):
        return fits(*self.run_told, plan)

    def test_the_cheapest_plan(self):
        self.assertEqual(self.plan, [[0, 0, 2, 0], [2, 0, 2, 2]])
        self.assertIs(self.fits(self.plan), True)

    def test_a_machine_too_few(self):
        self.assertIs(self.fits(self.plan[:1]), False)
        self.assertIs(self.fits(self.plan[1:]), False)
        self.assertIs(self.fits([]), False)
        self.assertIs(self.fits([[0, 0, 2, 0], [2, 2, 2, 2]]), False)

    def test_more_machines_than_needed(self):
        self.assertTrue(self.fits(self.plan + [[2, 2, 2, 2]]))
        self.assertTrue(self.fits(self.plan + [[0, 0, 0, 0]]))
        self.assertTrue(self.fits([[2, 2, 2, 2]] * 50 + self.plan))

    def test_other_machines_may_do_the_work(self):
        self.assertTrue(self.fits([[0, 2, 2, 2], [2, 0, 2, 2], [2, 0, 2, 2], [2, 2, 2, 0]]))

    def test_lengths_of_rows(self):
        self.assertFalse(self.fits([[0, 0, 2], [2, 0, 2, 2]]))
        self.assertFalse(self.fits([[0, 0, 2, 0, 2], [2, 0, 2, 2]]))
        self.assertFalse(self.fits(self.plan + [[]]))
        self.assertFalse(self.fits(self.plan + [[2, 2, 2]]))
        self.assertFalse(self.fits(self.plan + [[2, 2, 2, 2, 2]]))

    def test_states_that_there_are_not(self):
        for state in (3, 4, 10**30, -1, -2, -3, -10**30):
            for at in range(4):
                row = [2, 2, 2, 2]
                row[at] = state
                self.assertFalse(self.fits(self.plan + [row]), (state, at))
        self.assertTrue(fits(FOUR_RATES, [1, 1], [1, 0], [], [[0, 4]]))
        self.assertFalse(fits(FOUR_RATES, [1, 1], [1, 0], [], [[0, 5]]))

    def test_impossible_steps(self):
        run = (FOUR_RATES, [1] * 4, [0] * 4, [])
        self.assertTrue(fits(*run, [[0, 1, 2, 3]]))
        self.assertTrue(fits(*run, [[0, 3, 0, 4]]))
        self.assertTrue(fits(*run, [[0, 1, 1, 0]]))
        for row in ([0, 2, 1, 1], [0, 4, 3, 3], [0, 3, 2, 0], [0, 4, 1, 4], [4, 4, 2, 4]):
            self.assertFalse(fits(*run, [row]), row)

    def test_the_step_into_the_first_moment(self):
        for first, expected in ((0, True), (1, False), (2, False), (3, False), (4, True)):
            self.assertEqual(fits(FOUR_RATES, [1], [0], [], [[first]]), expected, first)

    def test_the_step_behind_a_break(self):
        for state, expected in ((0, True), (1, False), (2, True)):
            self.assertEqual(self.fits(self.plan + [[0, 0, state, 2]]), expected, state)
            self.assertTrue(fits(*self.run_told[:3], [], self.plan + [[0, 0, state, 2]]), state)
            self.assertTrue(fits(*self.run_told[:3], [3], self.plan + [[0, 0, state, 2]]), state)
        self.assertFalse(self.fits(self.plan + [[0, 1, 1, 1]]))

    def test_runs_without_need_and_without_moments(self):
        self.assertTrue(fits(PLAIN, [1, 1], [0, 0], [], []))
        self.assertTrue(fits(PLAIN, [], [], [], []))
        self.assertTrue(fits(PLAIN, [], [], [], [[], []]))
        self.assertFalse(fits(PLAIN, [], [], [], [[2]]))

    def test_against_all_rows(self):
        chance = random.Random(44)
        seen = {True: 0, False: 0}
        for _ in range(800):
            tariff, prices, needs, breaks = run = random_run(chance, 4, 2)
            plan = copy.deepcopy(cheapest(*run)) + [[len(tariff[0])] * len(prices)]
            for _ in range(chance.randint(0, 3)):
                row = chance.choice(plan)
                if row:
                    row[chance.randrange(len(row))] = chance.randint(-1, len(tariff[1]))
            expected = slow_fits(*run, plan)
            seen[expected] += 1
            self.assertIs(fits(*run, plan), expected, (run, plan))
        self.assertGreater(min(seen.values()), 100)


class PlanCost(unittest.TestCase):
    def test_examples(self):
        self.assertEqual(plan_cost(PLAIN, [5, 1, 11], [], [[0, 1, 0]]), 30 + 45 + 2 + 5 + 99)
        self.assertEqual(plan_cost(PLAIN, [5, 1, 11], [], [[0, 0, 2]]), 30 + 45 + 9)
        self.assertEqual(plan_cost(PLAIN, [5, 1, 11], [0], [[0, 0, 2]]), 30 + 45 + 30 + 9)
        self.assertEqual(plan_cost(PLAIN, [5, 1, 11], [2], [[0, 0, 0]]), 30 + 45 + 9 + 99)
        self.assertEqual(plan_cost(PLAIN, [5, 1], [], [[2, 2]] * 3), 0)

    def test_any_plan_that_fits(self):
        chance = random.Random(45)
        for _ in range(150):
            tariff = small_tariff(chance)
            prices = [chance.randint(1, 9) for _ in range(chance.randint(0, 4))]
            breaks = random_breaks(chance, len(prices))
            rows = [list(row) for row, _ in all_rows(tariff, prices, breaks)]
            plan = [list(chance.choice(rows)) for _ in range(chance.randint(0, 5))]
            expected = sum(slow_row_cost(tariff, prices, breaks, row) for row in plan)
            self.assertEqual(plan_cost(tariff, prices, breaks, plan), expected)
            needs = [sum(row[t] == 0 for row in plan) for t in range(len(prices))]
            self.assertLessEqual(cheapest_cost(tariff, prices, needs, breaks), expected)


class Long(unittest.TestCase):
    def test_long_runs_are_quick(self):
        chance = random.Random(46)
        prices = [chance.randint(1, 100) for _ in range(500)]
        needs = [chance.randint(0, 40) for _ in range(500)]
        breaks = list(range(3, 500, 17))
        start = time.perf_counter()
        plan = cheapest(FOUR_RATES, prices, needs, breaks)
        self.assertTrue(fits(FOUR_RATES, prices, needs, breaks, plan))
        cost = plan_cost(FOUR_RATES, prices, breaks, plan)
        self.assertLess(time.perf_counter() - start, 5)
        self.assertLessEqual(cost, run_cost(FOUR_RATES, prices, needs, breaks))


class NothingIsShared(unittest.TestCase):
    def test_arguments_and_answers(self):
        run = (PLAIN, [1, 1, 20, 1], [1, 2, 0, 1], [1])
        kept = copy.deepcopy(run)
        plan = cheapest(*run)
        expected = copy.deepcopy(plan)
        fits(*run, plan)
        plan_cost(run[0], run[1], run[3], plan)
        self.assertEqual((run, plan), (kept, expected))
        plan[0].append(9)
        plan.append([7])
        self.assertEqual(cheapest(*run), expected)

    def test_no_two_rows_are_one_list(self):
        plan = cheapest(SMALLEST, [1, 1], [3, 3], [])
        plan[0][0] = 1
        self.assertEqual(plan[1:], [[0, 0], [0, 0]])


if __name__ == "__main__":
    unittest.main()
