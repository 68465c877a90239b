"""Point 43: forecasts of gaps."""

import random
import unittest

from cases import FOUR_RATES, LARGEST, ONE_RATE, PLAIN, SMALLEST, random_tariff, slow_idle_state
from ebbkeep.forecasts import forecast_cost
from ebbkeep.tariffs import idle_cost


class Forecasts(unittest.TestCase):
    def test_examples(self):
        # PLAIN is hot for the forecast 0, asleep from 1 to 12, off from 13 on.
        costs = [forecast_cost(PLAIN, 10, forecast) for forecast in (0, 1, 12, 13, 14, 10**30)]
        self.assertEqual(costs, [90, 25, 25, 30, 30, 30])

    def test_a_forecast_of_0_is_hot(self):
        for tariff in (ONE_RATE, PLAIN, FOUR_RATES, SMALLEST, LARGEST):
            for total in (0, 1, 7, 1000):
                self.assertEqual(forecast_cost(tariff, total, 0), tariff[0][0] * total)

    def test_a_right_forecast_costs_the_idle_cost(self):
        for tariff in (ONE_RATE, PLAIN, FOUR_RATES, SMALLEST, LARGEST):
            for total in (0, 1, 2, 4, 5, 6, 16, 17, 60, 61, 10**6):
                self.assertEqual(forecast_cost(tariff, total, total), idle_cost(tariff, total))

    def test_far_below(self):
        self.assertEqual(forecast_cost(PLAIN, 10**20, 0), 9 * 10**20)
        self.assertEqual(forecast_cost(PLAIN, 10**20, 1), 2 * 10**20 + 5)

    def test_far_above(self):
        for total in (0, 1, 100):
            self.assertEqual(forecast_cost(PLAIN, total, 10**20), 30)

    def test_a_gap_without_moments(self):
        self.assertEqual([forecast_cost(PLAIN, 0, forecast) for forecast in (0, 1, 13)], [0, 5, 30])

    def test_of_several_states_the_least(self):
        self.assertEqual([forecast_cost(ONE_RATE, 9, forecast) for forecast in (3, 4, 5)], [45, 45, 20])

    def test_against_the_state_and_the_bound(self):
        chance = random.Random(43)
        for _ in range(500):
            tariff = random_tariff(chance)
            total, forecast = chance.randint(0, 60), chance.randint(0, 60)
            state = slow_idle_state(tariff, forecast)
            cost = forecast_cost(tariff, total, forecast)
            self.assertEqual(cost, (tariff[0] + (0,))[state] * total + tariff[1][state])
            self.assertGreaterEqual(cost, idle_cost(tariff, total))
            self.assertLessEqual(cost, idle_cost(tariff, total) + tariff[0][0] * abs(total - forecast))


if __name__ == "__main__":
    unittest.main()
