"""Points 44 and 45: time-out rules, and told rows."""

import copy
import random
import time
import unittest

from cases import FOUR_RATES, ONE_RATE, PLAIN, random_run, random_tariff, slow_rows
from ebbkeep.plans import cheapest_cost
from ebbkeep.tariffs import idle_cost
from ebbkeep.timeouts import timeout_cost, told_row


def slow_cost(tariff, prices, needs, breaks, limit):
    last = len(tariff[0])
    rows = slow_rows(tariff, prices, needs, breaks, lambda total: 0 if total <= limit else last)
    return sum(cost for _, cost in rows)


class Timeouts(unittest.TestCase):
    def test_totals_around_the_limit(self):
        # The first moment costs 5 + 20 and the last one 5, and 20 more if the lane was off.
        for total, cost in ((6, 30), (7, 35), (8, 20)):
            self.assertEqual(timeout_cost(ONE_RATE, [1, total, 1], [1, 0, 1], [], 7), 30 + cost)

    def test_the_total_grows_with_the_gap(self):
        self.assertEqual(timeout_cost(ONE_RATE, [1, 4, 3, 1], [1, 0, 0, 1], [], 7), 30 + 35)
        self.assertEqual(timeout_cost(ONE_RATE, [1, 4, 4, 1], [1, 0, 0, 1], [], 7), 30 + 20 + 20)

    def test_asleep_is_never_used(self):
        self.assertEqual(timeout_cost(PLAIN, [1, 5, 1], [1, 0, 1], [], 5), 39 + 45 + 9)
        self.assertEqual(timeout_cost(PLAIN, [1, 5, 1], [1, 0, 1], [], 4), 39 + 39)

    def test_a_limit_of_0(self):
        self.assertEqual(timeout_cost(ONE_RATE, [1, 1, 1], [1, 0, 1], [], 0), 50)
        self.assertEqual(timeout_cost(ONE_RATE, [1, 1, 1], [1, 1, 1], [], 0), 35)
        self.assertEqual(timeout_cost(ONE_RATE, [1, 1], [1, 1], [0], 0), 50)

    def test_a_limit_above_everything(self):
        self.assertEqual(timeout_cost(ONE_RATE, [100] * 4, [1, 0, 0, 0], [], 10**30), 20 + 4 * 500)

    def test_a_break_in_a_gap(self):
        run = (ONE_RATE, [1] * 4, [1, 0, 0, 1])
        self.assertEqual(timeout_cost(*run, [], 9), 40)
        self.assertEqual(timeout_cost(*run, [0], 9), 50)
        self.assertEqual(timeout_cost(*run, [1], 9), 55)
        self.assertEqual(timeout_cost(*run, [2], 9), 60)
        self.assertEqual(timeout_cost(*run, [3], 9), 40)

    def test_no_moments_and_no_needs(self):
        self.assertEqual(timeout_cost(PLAIN, [], [], [], 3), 0)
        self.assertEqual(timeout_cost(PLAIN, [5, 5], [0, 0], [0], 3), 0)

    def test_all_lanes(self):
        self.assertEqual(timeout_cost(ONE_RATE, [1, 1], [40, 0], [], 1), 40 * 30)
        self.assertEqual(timeout_cost(ONE_RATE, [1, 1], [40, 0], [], 0), 40 * 25)

    def test_against_looking_back(self):
        chance = random.Random(44)
        for _ in range(200):
            run = random_run(chance, 10, 5)
            limit = chance.choice([0, 1, 2, 5, 20, 100, 10**9])
            cost = timeout_cost(*run, limit)
            self.assertEqual(cost, slow_cost(*run, limit))
            self.assertGreaterEqual(cost, cheapest_cost(*run))

    def test_long_runs_are_quick(self):
        chance = random.Random(45)
        prices = [chance.randint(1, 100) for _ in range(500)]
        needs = [chance.randint(0, 40) for _ in range(500)]
        start = time.perf_counter()
        for limit in (0, 100, 5000):
            timeout_cost(FOUR_RATES, prices, needs, list(range(0, 500, 11)), limit)
        self.assertLess(time.perf_counter() - start, 5)

    def test_arguments_stay_as_they_are(self):
        run = (PLAIN, [1, 5, 1], [1, 0, 1], [1])
        kept = copy.deepcopy(run)
        timeout_cost(*run, 3)
        self.assertEqual(run, kept)


class ToldRow(unittest.TestCase):
    def test_examples(self):
        self.assertEqual(told_row(2, 2), ([1] * 9, [1, 0, 0, 0, 1, 0, 0, 0, 1]))
        self.assertEqual(told_row(1, 1), ([1] * 4, [1, 0, 0, 1]))

    def test_no_gaps(self):
        for limit in (0, 1, 50):
            self.assertEqual(told_row(limit, 0), ([1], [1]))

    def test_a_limit_of_0(self):
        self.assertEqual(told_row(0, 3), ([1] * 7, [1, 0, 1, 0, 1, 0, 1]))

    def test_what_the_rule_and_the_cheapest_plan_pay(self):
        chance = random.Random(46)
        for _ in range(200):
            tariff = random_tariff(chance)
            limit, gaps = chance.randint(0, 12), chance.randint(0, 5)
            prices, needs = told_row(limit, gaps)
            hot, wake = tariff[0][0], tariff[1][-1]
            needed = wake + (gaps + 1) * hot
            self.assertEqual(timeout_cost(tariff, prices, needs, [], limit), needed + gaps * (hot * limit + wake))
            least = idle_cost(tariff, limit + 1)
            self.assertEqual(cheapest_cost(tariff, prices, needs, []), needed + gaps * least)
            self.assertGreaterEqual(hot * limit + wake + hot, 2 * least)

    def test_two_lists_that_nobody_else_has(self):
        prices, needs = told_row(1, 1)
        self.assertEqual((type(prices), type(needs)), (list, list))
        prices.append(7)
        needs.append(8)
        self.assertEqual(told_row(1, 1), ([1] * 4, [1, 0, 0, 1]))
        prices, needs = told_row(0, 0)
        prices[0] = 5
        self.assertEqual(needs, [1])


if __name__ == "__main__":
    unittest.main()
