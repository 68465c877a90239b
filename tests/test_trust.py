"""Points 53 to 55: trust in forecasts, the gap cost, runs with a trust."""

import copy
import random
import time
import unittest

from cases import FOUR_RATES, LARGEST, ONE_RATE, PLAIN, SMALLEST, random_run, random_tariff, slow_row_cost, small_tariff
from ebbkeep.costs import run_cost
from ebbkeep.plans import cheapest_cost
from ebbkeep.tariffs import idle_cost, idle_state, off
from ebbkeep.trust import gap_cost, trusting_cost, trusting_state


def slow_state(tariff, total, trust, is_long):
    costs = []
    for rate, wake in zip(tariff[0] + (0,), tariff[1]):
        costs.append(trust * rate * total + wake if is_long else rate * total + trust * wake)
    return min(range(len(costs)), key=lambda j: (costs[j], j))


def slow_cost(tariff, prices, needs, breaks, trust, forecasts):
    """Find the state of each lane in each moment by looking back to the moment in which it was needed last."""
    last = len(tariff[0])
    rows = []
    for lane in range(1, 41):
        row = []
        for t in range(len(prices)):
            back = [u for u in range(t + 1) if needs[u] >= lane and not any(u <= b < t for b in breaks)]
            if not back:
                row.append(last)
            elif back[-1] == t:
                row.append(0)
            else:
                first = back[-1] + 1
                row.append(slow_state(tariff, sum(prices[first:t + 1]), trust, forecasts[first]))
        rows.append(row)
    return sum(slow_row_cost(tariff, prices, breaks, row) for row in rows)


class TrustingState(unittest.TestCase):
    def test_a_long_forecast(self):
        for trust, hot in ((1, 4), (2, 2), (3, 1), (4, 1), (5, 0)):
            self.assertEqual(trusting_state(ONE_RATE, hot, trust, True), 0, trust)
            self.assertEqual(trusting_state(ONE_RATE, hot + 1, trust, True), 1, trust)

    def test_a_short_forecast(self):
        for trust, hot in ((1, 4), (2, 8), (3, 12), (4, 16), (5, 20)):
            self.assertEqual(trusting_state(ONE_RATE, hot, trust, False), 0, trust)
            self.assertEqual(trusting_state(ONE_RATE, hot + 1, trust, False), 1, trust)

    def test_states_asleep(self):
        long = [trusting_state(PLAIN, total, 5, True) for total in range(5)]
        self.assertEqual(long, [0, 1, 1, 2, 2])
        short = [trusting_state(PLAIN, total, 5, False) for total in (3, 4, 62, 63)]
        self.assertEqual(short, [0, 1, 1, 2])

    def test_the_least_of_several_states(self):
        self.assertEqual(trusting_state(ONE_RATE, 1, 4, True), 0)
        self.assertEqual(trusting_state(ONE_RATE, 20, 5, False), 0)

    def test_a_total_of_0(self):
        for is_long in (True, False):
            for trust in range(1, 6):
                self.assertEqual(trusting_state(FOUR_RATES, 0, trust, is_long), 0)

    def test_the_trust_1_is_the_idle_state(self):
        chance = random.Random(53)
        for _ in range(300):
            tariff, total = random_tariff(chance), chance.choice([0, 1, 5, chance.randint(0, 12000)])
            for is_long in (True, False):
                self.assertEqual(trusting_state(tariff, total, 1, is_long), idle_state(tariff, total))

    def test_against_the_words_of_the_point(self):
        chance = random.Random(530)
        for _ in range(1500):
            tariff = chance.choice([small_tariff, random_tariff])(chance)
            told = (chance.choice([0, 1, 2, 3, 9, chance.randint(0, 60000)]), chance.randint(1, 5), chance.random() < 0.5)
            self.assertEqual(trusting_state(tariff, *told), slow_state(tariff, *told))

    def test_a_greater_total_never_has_a_warmer_state(self):
        for tariff in (ONE_RATE, PLAIN, FOUR_RATES, SMALLEST, LARGEST):
            for trust in range(1, 6):
                for is_long in (True, False):
                    states = [trusting_state(tariff, total, trust, is_long) for total in range(0, 1000)]
                    self.assertEqual(states, sorted(states))


class GapCost(unittest.TestCase):
    def test_no_prices(self):
        for trust in (1, 3, 5):
            for is_long in (True, False):
                self.assertEqual(gap_cost(FOUR_RATES, [], trust, is_long), 0)

    def test_examples(self):
        # With the trust 1 the lane is hot up to the total 4. A long forecast turns it off at once, a short one at 21.
        self.assertEqual(gap_cost(ONE_RATE, [4], 1, True), 20)
        self.assertEqual(gap_cost(ONE_RATE, [5], 1, True), 20)
        self.assertEqual(gap_cost(ONE_RATE, [4, 1], 1, True), 40)
        self.assertEqual(gap_cost(ONE_RATE, [1] * 9, 5, True), 20)
        self.assertEqual(gap_cost(ONE_RATE, [1] * 9, 5, False), 45)
        self.assertEqual(gap_cost(ONE_RATE, [1] * 20, 5, False), 100)
        self.assertEqual(gap_cost(ONE_RATE, [1] * 21, 5, False), 120)
        self.assertEqual(gap_cost(ONE_RATE, [1] * 300, 5, False), 120)
        self.assertEqual(gap_cost(ONE_RATE, [21], 5, False), 20)

    def test_asleep_in_between(self):
        # Long with the trust 5: asleep for the totals 1 and 2, then off. Short: hot up to 3, asleep up to 62.
        self.assertEqual(gap_cost(PLAIN, [1], 5, True), 2 + 5)
        self.assertEqual(gap_cost(PLAIN, [1, 1], 5, True), 4 + 5)
        self.assertEqual(gap_cost(PLAIN, [1, 1, 1], 5, True), 4 + 30)
        self.assertEqual(gap_cost(PLAIN, [3, 59], 5, False), 27 + 118 + 5)
        self.assertEqual(gap_cost(PLAIN, [3, 59, 1, 100], 5, False), 27 + 118 + 30)

    def test_the_bounds_of_point_54(self):
        chance = random.Random(54)
        right = {True: 0, False: 0}
        for _ in range(3000):
            tariff = chance.choice([small_tariff, random_tariff])(chance)
            dearest = chance.choice([1, 3, 100])
            prices = [chance.randint(1, dearest) for _ in range(chance.randint(0, 12))]
            trust, is_long = chance.randint(1, 5), chance.random() < 0.5
            cost, total = gap_cost(tariff, prices, trust, is_long), sum(prices)
            least = idle_cost(tariff, total)
            self.assertTrue(least <= cost <= (trust + 1) * least)
            if is_long and idle_state(tariff, total) == off(tariff):
                right[True] += 1
                self.assertLessEqual(trust * cost, (trust + 1) * least)
            if not is_long and idle_state(tariff, total) == 0:
                right[False] += 1
                self.assertEqual(cost, least)
        self.assertGreater(min(right.values()), 100)

    def test_a_wrong_forecast_may_cost_much(self):
        self.assertEqual(gap_cost(ONE_RATE, [1], 5, True), 20)
        self.assertEqual(gap_cost(((20,), (0, 100)), [1] * 26, 5, False), 600)

    def test_the_prices_stay_as_they_are(self):
        prices = [3, 59]
        gap_cost(PLAIN, prices, 5, False)
        self.assertEqual(prices, [3, 59])


class TrustingCost(unittest.TestCase):
    def test_the_first_forecast_of_the_gap_is_followed(self):
        run = (ONE_RATE, [1] * 5, [1, 0, 0, 0, 1], [])
        ends = 25 + 5
        self.assertEqual(trusting_cost(*run, 5, [True] * 5), ends + 20)
        self.assertEqual(trusting_cost(*run, 5, [False] * 5), ends + 15)
        self.assertEqual(trusting_cost(*run, 5, [False, True, False, False, False]), ends + 20)
        self.assertEqual(trusting_cost(*run, 5, [True, False, True, True, True]), ends + 15)

    def test_a_later_gap_has_its_own_forecast(self):
        run = (ONE_RATE, [1] * 5, [1, 0, 1, 0, 1], [])
        self.assertEqual(trusting_cost(*run, 5, [True, True, False, False, True]), 25 + 20 + 5 + 5 + 5)
        self.assertEqual(trusting_cost(*run, 5, [False, False, True, True, False]), 25 + 5 + 5 + 20 + 5)

    def test_each_lane_has_its_own_gap(self):
        # The second lane's gap begins with the moment 1, the first one's with the moment 2.
        run = (ONE_RATE, [1] * 4, [2, 1, 0, 2], [])
        self.assertEqual(trusting_cost(*run, 5, [True, False, True, True]), 25 + 5 + 20 + 5 + 25 + 10 + 5)
        self.assertEqual(trusting_cost(*run, 5, [False, True, False, False]), 25 + 5 + 5 + 5 + 25 + 20 + 5)

    def test_breaks(self):
        run = (ONE_RATE, [1] * 4, [1, 0, 0, 1])
        short = [False] * 4
        for breaks, cost in (([], 10), ([0], 20), ([1], 25), ([2], 30), ([3], 10), ([0, 1, 2], 20)):
            self.assertEqual(trusting_cost(*run, breaks, 5, short), 30 + cost)
        self.assertEqual(trusting_cost(ONE_RATE, [1, 1], [1, 1], [0], 3, [True, True]), 50)

    def test_a_lane_that_is_off_stays_off_behind_a_break(self):
        self.assertEqual(trusting_cost(ONE_RATE, [1] * 6, [1, 0, 0, 0, 0, 0], [1], 5, [False] * 6), 30)

    def test_no_moments_and_no_needs(self):
        self.assertEqual(trusting_cost(PLAIN, [], [], [], 2, []), 0)
        self.assertEqual(trusting_cost(PLAIN, [4, 4], [0, 0], [0], 2, [True, False]), 0)

    def test_all_lanes(self):
        self.assertEqual(trusting_cost(ONE_RATE, [1, 1], [40, 0], [], 5, [True, False]), 40 * 30)
        self.assertEqual(trusting_cost(ONE_RATE, [1, 1], [40, 0], [], 5, [True, True]), 40 * 25)

    def test_the_trust_1_is_the_rule(self):
        chance = random.Random(55)
        for _ in range(200):
            run = random_run(chance, 12, 5)
            forecasts = [chance.random() < 0.5 for _ in run[1]]
            self.assertEqual(trusting_cost(*run, 1, forecasts), run_cost(*run))

    def test_against_looking_back_and_the_cheapest_plan(self):
        chance = random.Random(550)
        for _ in range(250):
            run = random_run(chance, 12, 4)
            trust, often = chance.randint(1, 5), chance.choice([0, 0.5, 1])
            forecasts = [chance.random() < often for _ in run[1]]
            cost = trusting_cost(*run, trust, forecasts)
            self.assertEqual(cost, slow_cost(*run, trust, forecasts))
            least = cheapest_cost(*run)
            self.assertTrue(least <= cost <= (trust + 1) * least)

    def test_long_runs_are_quick(self):
        chance = random.Random(551)
        prices = [chance.randint(1, 9) for _ in range(500)]
        needs = [chance.randint(0, 40) for _ in range(500)]
        forecasts = [chance.random() < 0.5 for _ in range(500)]
        start = time.perf_counter()
        for trust in (1, 3, 5):
            trusting_cost(FOUR_RATES, prices, needs, list(range(0, 500, 31)), trust, forecasts)
        self.assertLess(time.perf_counter() - start, 5)

    def test_arguments_stay_as_they_are(self):
        told = (PLAIN, [1, 5, 1], [1, 0, 1], [1], 3, [True, False, True])
        kept = copy.deepcopy(told)
        trusting_cost(*told)
        self.assertEqual(told, kept)


if __name__ == "__main__":
    unittest.main()
