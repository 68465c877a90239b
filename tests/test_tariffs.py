"""Points 30 to 33: tariffs, states and steps, breaks, idle cost and idle state."""

import random
import unittest

from cases import LARGEST, PLAIN, SMALLEST, random_tariff
from ebbkeep.errors import InvalidTariff
from ebbkeep.tariffs import check_tariff, idle_cost, idle_state, off, off_before, rate, step_cost, wake

RIGHT = [PLAIN, SMALLEST, LARGEST, ((7,), (0, 20)), ((3, 2, 1), (0, 4, 5, 6))]


class Check(unittest.TestCase):
    def accept(self, tariff):
        self.assertIsNone(check_tariff(tariff))

    def refuse(self, tariff):
        with self.assertRaises(InvalidTariff):
            check_tariff(tariff)

    def test_right_ones(self):
        for tariff in RIGHT:
            self.accept(tariff)

    def test_number_of_rates(self):
        self.refuse(((), ()))
        self.refuse(((), (0,)))
        self.accept(((4, 3, 2, 1), (0, 1, 2, 3, 4)))
        self.refuse(((5, 4, 3, 2, 1), (0, 1, 2, 3, 4, 5)))

    def test_one_wake_more_than_rates(self):
        self.refuse(((9, 2), ()))
        self.refuse(((9, 2), (0,)))
        self.refuse(((9, 2), (0, 5)))
        self.refuse(((9, 2), (0, 5, 30, 40)))

    def test_bounds_of_rates(self):
        self.accept(((10000,), (0, 1)))
        self.refuse(((10001,), (0, 1)))
        self.accept(((2, 1), (0, 1, 2)))
        self.refuse(((2, 0), (0, 1, 2)))
        self.refuse(((2, -1), (0, 1, 2)))
        self.refuse(((0,), (0, 1)))

    def test_bounds_of_wakes(self):
        self.accept(((5,), (0, 10000)))
        self.refuse(((5,), (0, 10001)))
        self.refuse(((5,), (-1, 3)))
        self.refuse(((5,), (0, -1)))

    def test_first_wake_is_zero(self):
        self.refuse(((9, 2), (1, 5, 30)))
        self.refuse(((9, 2), (5, 0, 30)))

    def test_rates_descend_strictly(self):
        self.refuse(((9, 9), (0, 5, 30)))
        self.refuse(((2, 9), (0, 5, 30)))
        self.refuse(((9, 5, 5), (0, 5, 30, 40)))
        self.refuse(((9, 5, 6), (0, 5, 30, 40)))

    def test_wakes_ascend_strictly(self):
        self.refuse(((9, 2), (0, 5, 5)))
        self.refuse(((9, 2), (0, 0, 5)))
        self.refuse(((9, 2), (0, 30, 5)))
        self.refuse(((5,), (0, 0)))


class States(unittest.TestCase):
    def test_off_is_the_last_state(self):
        self.assertEqual([off(tariff) for tariff in RIGHT], [2, 1, 4, 1, 3])

    def test_rates_and_wakes(self):
        self.assertEqual([rate(PLAIN, state) for state in range(3)], [9, 2, 0])
        self.assertEqual([wake(PLAIN, state) for state in range(3)], [0, 5, 30])

    def test_rate_of_off_is_zero(self):
        for tariff in RIGHT:
            self.assertEqual(rate(tariff, off(tariff)), 0)
            self.assertEqual(wake(tariff, off(tariff)), tariff[1][-1])

    def test_steps(self):
        table = [[step_cost(PLAIN, before, after) for after in range(3)] for before in range(3)]
        self.assertEqual(table, [[0, 0, 0], [5, 0, 0], [30, None, 0]])

    def test_steps_with_five_states(self):
        for before in range(5):
            for after in range(5):
                expected = None
                if before <= after:
                    expected = 0
                elif after == 0:
                    expected = LARGEST[1][before]
                self.assertEqual(step_cost(LARGEST, before, after), expected)


class Breaks(unittest.TestCase):
    def test_off_before_the_first_moment_and_after_breaks(self):
        self.assertEqual(off_before([], 3), [True, False, False])
        self.assertEqual(off_before([0], 3), [True, True, False])
        self.assertEqual(off_before([0, 1], 4), [True, True, True, False])

    def test_a_break_after_the_last_moment_has_no_effect(self):
        self.assertEqual(off_before([2], 3), [True, False, False])

    def test_no_moments(self):
        self.assertEqual(off_before([], 0), [])


class Idle(unittest.TestCase):
    def test_example_at_each_change(self):
        # hot 9x, asleep 2x + 5, off 30: asleep is cheaper from 5/7 on, off from 12.5 on.
        states = [idle_state(PLAIN, total) for total in (0, 1, 2, 11, 12, 13, 14)]
        self.assertEqual(states, [0, 1, 1, 1, 1, 2, 2])
        costs = [idle_cost(PLAIN, total) for total in (0, 1, 2, 11, 12, 13, 14)]
        self.assertEqual(costs, [0, 7, 9, 27, 29, 30, 30])

    def test_of_several_the_least_state(self):
        tariff = ((4, 1), (0, 6, 8))  # at 2: 8, 8, 8
        self.assertEqual([idle_state(tariff, total) for total in (1, 2, 3)], [0, 0, 2])
        self.assertEqual([idle_cost(tariff, total) for total in (1, 2, 3)], [4, 8, 8])
        tariff = ((5, 2), (0, 3, 9))  # at 1: 5, 5, 9; at 3: 15, 9, 9
        self.assertEqual([idle_state(tariff, total) for total in (0, 1, 2, 3, 4)], [0, 0, 1, 1, 2])

    def test_zero_costs_nothing_and_is_hot(self):
        for tariff in RIGHT:
            self.assertEqual((idle_cost(tariff, 0), idle_state(tariff, 0)), (0, 0))

    def test_great_totals_are_off(self):
        for tariff in RIGHT:
            self.assertEqual(idle_state(tariff, 10**40), off(tariff))
            self.assertEqual(idle_cost(tariff, 10**40), tariff[1][-1])

    def test_against_all_states(self):
        chance = random.Random(30)
        for _ in range(200):
            rates, wakes = tariff = random_tariff(chance)
            for total in [chance.randint(0, 40) for _ in range(20)]:
                worth = [r * total + w for r, w in zip(rates + (0,), wakes)]
                self.assertEqual(idle_cost(tariff, total), min(worth))
                self.assertEqual(idle_state(tariff, total), worth.index(min(worth)))

    def test_growing_totals(self):
        chance = random.Random(33)
        for _ in range(200):
            tariff = random_tariff(chance)
            total = chance.randint(0, 30)
            more = chance.randint(0, 30)
            old, new = idle_state(tariff, total), idle_state(tariff, total + more)
            growth = idle_cost(tariff, total + more) - idle_cost(tariff, total)
            self.assertLessEqual(old, new)
            self.assertLessEqual(rate(tariff, new) * more, growth)
            self.assertLessEqual(growth, rate(tariff, old) * more)
            self.assertLessEqual(idle_cost(tariff, total), wake(tariff, off(tariff)))


if __name__ == "__main__":
    unittest.main()
