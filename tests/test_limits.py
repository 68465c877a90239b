"""Points 56 to 58: limits and their text, the limits of the rule, runs by limits, the sweep."""

import copy
import random
import time
import unittest

from cases import FOUR_RATES, LARGEST, ONE_RATE, PLAIN, SMALLEST, random_run, random_tariff, slow_rows, small_tariff
from ebbkeep.costs import run_cost
from ebbkeep.errors import InvalidRow
from ebbkeep.limits import limit_state, limits_cost, read_limits, rule_limits, sweep, write_limits
from ebbkeep.plans import cheapest_cost
from ebbkeep.tariffs import idle_state
from ebbkeep.timeouts import timeout_cost

TEXTS = {
    "hot 12 asleep 40 asleep 41 off": (12, 40, 41),
    "hot 0 off": (0,),
    "hot 99999999 off": (99999999,),
    "hot 0 asleep 0 off": (0, 0),
    "hot 5 asleep 5 asleep 5 asleep 5 off": (5, 5, 5, 5),
    "hot 1 asleep 2 asleep 3 asleep 99999999 off": (1, 2, 3, 99999999),
}

WRONG = (
    "", "off", " off", "hot", "hot off", "hot 1", "hot 1 ", "hot 1 off ", " hot 1 off", "hot  1 off", "hot 1  off",
    "hot 01 off", "hot 00 off", "hot -1 off", "hot +1 off", "hot 1.0 off", "hot one off", "hot 1_0 off", "hot 100000000 off",
    "hot 999999999 off", "hot 1000000000 off", "hot 1 asleep 100000000 off", "hot 5 asleep 4 off",
    "hot 1 asleep 3 asleep 2 off", "hot 1 asleep off", "hot 1 2 off", "asleep 1 off", "asleep 1 hot 2 off",
    "hot 1 hot 2 off", "hot 1 asleep 2", "hot 1 asleep 2 off off", "hot 1 off asleep 2 off", "Hot 1 off", "hot 1 OFF",
    "hot 1 asleep 2 asleep 3 asleep 4 asleep 5 off", "hot 1 off\n", "hot 1\noff", "hot\n1 off", "hot 1 asleep 02 off",
    "hot 1, asleep 2 off", "1 off", "hot 1 sleep 2 off", "hot 1 asleep  off", "hot 1 asleep 2 of", "off 1 hot",
)


class Texts(unittest.TestCase):
    def test_written_forms(self):
        for text, limits in TEXTS.items():
            self.assertEqual(write_limits(limits), text)
            self.assertEqual(read_limits(text), limits)
            self.assertIs(type(read_limits(text)), tuple)

    def test_wrong_texts(self):
        for text in WRONG:
            with self.assertRaises(InvalidRow, msg=text):
                read_limits(text)

    def test_drawn_limits(self):
        chance = random.Random(56)
        for _ in range(300):
            top = chance.choice([1, 20, 99999999])
            limits = tuple(sorted(chance.randint(0, top) for _ in range(chance.randint(1, 4))))
            self.assertEqual(read_limits(write_limits(limits)), limits)

    def test_spoiled_texts(self):
        chance = random.Random(560)
        kept = 0
        for _ in range(3000):
            text = chance.choice(list(TEXTS))
            at = chance.randint(0, len(text))
            text = text[:at] + chance.choice(["", " ", "0", "7", "-", "\n", "a"]) + text[at + chance.randint(0, 1):]
            try:
                limits = read_limits(text)
            except InvalidRow:
                continue
            kept += 1
            self.assertEqual(write_limits(limits), text)
            self.assertEqual(list(limits), sorted(limits))
            self.assertTrue(1 <= len(limits) <= 4 and max(limits) <= 99999999)
        self.assertGreater(kept, 100)


class LimitState(unittest.TestCase):
    def test_a_total_equal_to_a_limit_and_one_above_it(self):
        for total, state in ((0, 0), (12, 0), (13, 1), (40, 1), (41, 2), (42, 3), (10**9, 3)):
            self.assertEqual(limit_state((12, 40, 41), total), state)

    def test_one_state_and_four(self):
        self.assertEqual([limit_state((3,), total) for total in (0, 3, 4)], [0, 0, 1])
        four = [limit_state((0, 1, 2, 3), total) for total in range(6)]
        self.assertEqual(four, [0, 1, 2, 3, 4, 4])

    def test_equal_limits(self):
        self.assertEqual([limit_state((5, 5, 5), total) for total in (5, 6)], [0, 3])
        self.assertEqual([limit_state((2, 5, 5, 9), total) for total in (2, 5, 6, 9, 10)], [0, 1, 3, 3, 4])

    def test_limits_of_0(self):
        self.assertEqual([limit_state((0, 0), total) for total in (0, 1)], [0, 2])


class RuleLimits(unittest.TestCase):
    def test_examples(self):
        self.assertEqual(rule_limits(ONE_RATE), (4,))
        self.assertEqual(rule_limits(PLAIN), (0, 12))
        self.assertEqual(rule_limits(FOUR_RATES), (1, 5, 16, 60))
        self.assertEqual(rule_limits(SMALLEST), (1,))

    def test_a_state_that_is_never_used(self):
        # Up to 3 hot is cheapest, and from 4 on off is: asleep always costs more than one of the two.
        tariff = ((3, 2), (0, 10, 11))
        self.assertEqual(rule_limits(tariff), (3, 3))
        self.assertEqual([idle_state(tariff, total) for total in (3, 4)], [0, 2])

    def test_one_less_and_one_more_at_each_change_of_the_idle_state(self):
        chance = random.Random(57)
        for _ in range(400):
            tariff = chance.choice([small_tariff, random_tariff])(chance)
            limits = rule_limits(tariff)
            self.assertEqual(len(limits), len(tariff[0]))
            for state, limit in enumerate(limits):
                self.assertLessEqual(idle_state(tariff, limit), state)
                self.assertGreater(idle_state(tariff, limit + 1), state)

    def test_they_give_the_idle_state(self):
        for tariff in (ONE_RATE, PLAIN, FOUR_RATES, SMALLEST, LARGEST):
            limits = rule_limits(tariff)
            for total in range(200):
                self.assertEqual(limit_state(limits, total), idle_state(tariff, total))


class LimitsCost(unittest.TestCase):
    def test_examples(self):
        run = (PLAIN, [1, 3, 4, 1], [1, 0, 0, 1], [])
        for limits, cost in (((3, 7), 27 + 8 + 5), ((3, 6), 27 + 30), ((2, 7), 6 + 8 + 5), ((7, 7), 63), ((6, 6), 27 + 30),
                             ((0, 0), 30), ((0, 100), 6 + 8 + 5)):
            self.assertEqual(limits_cost(*run, limits), 39 + 9 + cost)

    def test_a_break_in_a_gap(self):
        run = (ONE_RATE, [1] * 4, [1, 0, 0, 1])
        for breaks, cost in (([], 10), ([0], 20), ([1], 25), ([2], 30), ([3], 10)):
            self.assertEqual(limits_cost(*run, breaks, (9,)), 30 + cost)

    def test_no_moments_and_no_needs(self):
        self.assertEqual(limits_cost(PLAIN, [], [], [], (3, 9)), 0)
        self.assertEqual(limits_cost(PLAIN, [4, 4], [0, 0], [1], (3, 9)), 0)

    def test_against_looking_back(self):
        chance = random.Random(58)
        for _ in range(200):
            run = random_run(chance, 10, 4)
            limits = tuple(sorted(chance.choice([0, 1, 3, 9, 40, 500]) for _ in run[0][0]))
            rows = slow_rows(*run, lambda total: sum(total > limit for limit in limits))
            cost = limits_cost(*run, limits)
            self.assertEqual(cost, sum(paid for _, paid in rows))
            self.assertGreaterEqual(cost, cheapest_cost(*run))

    def test_the_limits_of_the_rule_are_the_rule(self):
        chance = random.Random(580)
        for _ in range(200):
            run = random_run(chance, 12, 5)
            self.assertEqual(limits_cost(*run, rule_limits(run[0])), run_cost(*run))

    def test_equal_limits_are_a_time_out_rule(self):
        chance = random.Random(581)
        for _ in range(100):
            run = random_run(chance, 10, 4)
            limit = chance.choice([0, 2, 10, 300])
            self.assertEqual(limits_cost(*run, (limit,) * len(run[0][0])), timeout_cost(*run, limit))


class Sweep(unittest.TestCase):
    RUN = (ONE_RATE, [1, 3, 1], [1, 0, 1], [])

    def test_the_cheapest(self):
        self.assertEqual(sweep(*self.RUN, [(2,), (3,)]), 1)
        self.assertEqual(sweep(*self.RUN, [(3,), (2,)]), 0)
        self.assertEqual(sweep(*self.RUN, [(0,), (1,), (4,), (2,)]), 2)

    def test_the_first_of_several(self):
        self.assertEqual(sweep(*self.RUN, [(0,), (7,), (3,), (7,), (99999999,)]), 1)
        self.assertEqual(sweep(*self.RUN, [(2,), (1,), (0,)]), 0)
        self.assertEqual(sweep(*self.RUN, [(3,), (3,)]), 0)

    def test_one_rule_and_no_moments(self):
        self.assertEqual(sweep(*self.RUN, [(0,)]), 0)
        self.assertEqual(sweep(ONE_RATE, [], [], [], [(5,), (0,)]), 0)

    def test_drawn_runs(self):
        chance = random.Random(582)
        for _ in range(100):
            run = random_run(chance, 10, 3)
            rules = [tuple(sorted(chance.choice([0, 2, 5, 30]) for _ in run[0][0])) for _ in range(chance.randint(1, 6))]
            costs = [limits_cost(*run, limits) for limits in rules]
            best = sweep(*run, rules)
            self.assertEqual(costs[best], min(costs))
            self.assertNotIn(costs[best], costs[:best])

    def test_long_runs_are_quick(self):
        chance = random.Random(583)
        prices = [chance.randint(1, 100) for _ in range(500)]
        needs = [chance.randint(0, 40) for _ in range(500)]
        rules = [(n, 2 * n, 3 * n, 4 * n) for n in range(0, 1000, 100)]
        start = time.perf_counter()
        sweep(FOUR_RATES, prices, needs, list(range(0, 500, 31)), rules)
        self.assertLess(time.perf_counter() - start, 5)

    def test_arguments_stay_as_they_are(self):
        told = (PLAIN, [1, 5, 1], [1, 0, 1], [1], [(3, 4), (0, 1)])
        kept = copy.deepcopy(told)
        sweep(*told)
        limits_cost(*told[:4], told[4][0])
        self.assertEqual(told, kept)


if __name__ == "__main__":
    unittest.main()
