"""Points 46 and 47: the works of a lane, and looking back at every moment."""

import random
import time
import unittest

from cases import FOUR_RATES, LARGEST, ONE_RATE, PLAIN, SMALLEST, all_rows, random_run, slow_least
from ebbkeep.lanes import Pool
from ebbkeep.plans import cheapest_cost
from ebbkeep.works import LookingBack, Works


def slow_works(tariff, prices, needed, breaks):
    """Take the least cost of all rows with each last state, before a break after the last moment."""
    found = [None] * len(tariff[1])
    for row, cost in all_rows(tariff, prices, breaks):
        if all(state == 0 or not is_needed for state, is_needed in zip(row, needed)):
            if found[row[-1]] is None or cost < found[row[-1]]:
                found[row[-1]] = cost
    return tuple(found)


class OneLane(unittest.TestCase):
    def test_example(self):
        works = Works(PLAIN)
        self.assertEqual(works.step(2, False), (48, None, 0))
        self.assertEqual(works.step(1, True), (39, None, None))
        self.assertEqual(works.step(3, False), (66, 45, 39))
        self.assertEqual(works.step(1, False), (59, 47, 39))
        self.assertEqual(works.least(), 39)
        self.assertEqual(works.step(1, True), (61, None, None))

    def test_least_called_first(self):
        for tariff in (ONE_RATE, PLAIN, LARGEST):
            self.assertEqual(Works(tariff).least(), 0)

    def test_a_break_called_first(self):
        self.assertEqual(Works(PLAIN).end_break(), (None, None, 0))
        works = Works(FOUR_RATES)
        self.assertEqual(works.end_break(), (None, None, None, None, 0))
        self.assertEqual(works.least(), 0)
        self.assertEqual(works.step(1, True), (170, None, None, None, None))

    def test_a_break_leaves_off_with_the_least_work(self):
        works = Works(PLAIN)
        works.step(1, True)
        self.assertEqual(works.end_break(), (None, None, 39))
        self.assertEqual(works.least(), 39)
        self.assertEqual(works.step(1, True), (78, None, None))

    def test_two_breaks_in_a_row(self):
        works = Works(PLAIN)
        works.step(1, True)
        self.assertEqual(works.end_break(), works.end_break())
        self.assertEqual(works.step(4, False), (105, None, 39))

    def test_the_first_moment_and_the_one_after_a_break_cannot_be_asleep(self):
        works = Works(FOUR_RATES)
        self.assertEqual(works.step(1, False), (170, None, None, None, 0))
        self.assertEqual(works.step(1, False), (170, 179, 174, 171, 0))
        self.assertEqual(works.end_break(), (None, None, None, None, 0))
        self.assertEqual(works.step(1, False), (170, None, None, None, 0))

    def test_a_lane_that_is_never_needed(self):
        works = Works(PLAIN)
        for _ in range(5):
            self.assertEqual(works.step(100, False)[2], 0)
            self.assertEqual(works.least(), 0)

    def test_a_lane_that_is_always_needed(self):
        works = Works(PLAIN)
        for t in range(5):
            self.assertEqual(works.step(100, True), (30 + 900 * (t + 1), None, None))
            self.assertEqual(works.least(), 30 + 900 * (t + 1))

    def test_against_all_rows(self):
        chance = random.Random(46)
        for _ in range(200):
            tariff, prices, needs, breaks = random_run(chance, 6, 1)
            works = Works(tariff)
            for t, price in enumerate(prices):
                told = works.step(price, needs[t] == 1)
                slow = slow_works(tariff, prices[:t + 1], needs[:t + 1], breaks)
                least = min(work for work in slow if work is not None)
                self.assertEqual(told, slow)
                self.assertEqual(works.least(), least)
                if t in breaks:
                    self.assertEqual(works.end_break(), (None,) * len(tariff[0]) + (least,))

    def test_kinds_of_values(self):
        works = Works(PLAIN)
        self.assertIs(type(works.step(1, False)), tuple)
        self.assertIs(type(works.end_break()), tuple)

    def test_lanes_do_not_touch_each_other(self):
        first, second = Works(PLAIN), Works(PLAIN)
        first.step(1, True)
        self.assertEqual(second.least(), 0)


class Looking(unittest.TestCase):
    def test_nothing_told(self):
        self.assertEqual(LookingBack(PLAIN).cost(), 0)

    def test_example(self):
        back = LookingBack(ONE_RATE)
        self.assertEqual(back.step(1, 2), 50)
        self.assertEqual(back.step(3, 0), 50)
        self.assertEqual(back.step(1, 1), 50 + 15 + 5)
        self.assertEqual(back.step(2, 0), 70)
        self.assertEqual(back.step(1, 3), 70 + (10 + 5) + (20 + 5) + (20 + 5))
        self.assertEqual(back.cost(), 135)

    def test_a_break(self):
        back = LookingBack(ONE_RATE)
        back.step(1, 1)
        self.assertIsNone(back.end_break())
        self.assertEqual(back.cost(), 25)
        self.assertEqual(back.step(1, 1), 50)
        back.end_break()
        back.end_break()
        self.assertEqual(back.cost(), 50)
        self.assertEqual(back.step(1, 0), 50)
        self.assertEqual(back.step(1, 1), 75)

    def test_a_break_called_first(self):
        back = LookingBack(PLAIN)
        self.assertIsNone(back.end_break())
        self.assertEqual(back.cost(), 0)
        self.assertEqual(back.step(1, 1), 39)

    def test_never_needed_and_always_needed(self):
        back = LookingBack(PLAIN)
        self.assertEqual([back.step(100, 0) for _ in range(3)], [0, 0, 0])
        self.assertEqual([back.step(1, 40) for _ in range(3)], [40 * 39, 40 * 48, 40 * 57])

    def test_against_all_ways(self):
        chance = random.Random(47)
        for _ in range(80):
            tariff, prices, needs, breaks = random_run(chance, 5, 2)
            back = LookingBack(tariff)
            for t, price in enumerate(prices):
                told = (tariff, prices[:t + 1], needs[:t + 1], breaks)
                self.assertEqual(back.step(price, needs[t]), slow_least(*told, max(needs)))
                if t in breaks:
                    back.end_break()

    def test_cheapest_plan_works_and_pool_at_every_moment(self):
        chance = random.Random(48)
        for _ in range(120):
            tariff, prices, needs, breaks = random_run(chance, 15, chance.choice([3, 8, 40]))
            back, pool = LookingBack(tariff), Pool(tariff)
            lanes = [Works(tariff) for _ in range(max(needs, default=0))]
            before = 0
            for t, price in enumerate(prices):
                cost = back.step(price, needs[t])
                self.assertEqual(cost, back.cost())
                self.assertEqual(cost, cheapest_cost(tariff, prices[:t + 1], needs[:t + 1], breaks))
                for lane, works in enumerate(lanes, start=1):
                    works.step(price, needs[t] >= lane)
                self.assertEqual(cost, sum(works.least() for works in lanes))
                self.assertGreaterEqual(cost, before)
                pool.step(price, needs[t])
                self.assertLessEqual(pool.spent(), 2 * cost)
                if t in breaks:
                    for told in [back, pool] + lanes:
                        told.end_break()
                self.assertEqual(back.cost(), cost)
                self.assertEqual(cost, sum(works.least() for works in lanes))
                before = cost

    def test_long_runs_are_quick(self):
        chance = random.Random(49)
        start = time.perf_counter()
        for tariff in (SMALLEST, FOUR_RATES, LARGEST):
            prices = [chance.randint(1, 100) for _ in range(500)]
            needs = [chance.randint(0, 40) for _ in range(500)]
            breaks = list(range(4, 500, 23))
            back = LookingBack(tariff)
            lanes = [Works(tariff) for _ in range(40)]
            for t in range(500):
                back.step(prices[t], needs[t])
                for lane, works in enumerate(lanes, start=1):
                    works.step(prices[t], needs[t] >= lane)
                if t in breaks:
                    for told in [back] + lanes:
                        told.end_break()
            self.assertEqual(back.cost(), cheapest_cost(tariff, prices, needs, breaks))
            self.assertEqual(back.cost(), sum(works.least() for works in lanes))
        self.assertLess(time.perf_counter() - start, 15)

    def test_others_are_not_touched(self):
        first, second = LookingBack(PLAIN), LookingBack(PLAIN)
        first.step(1, 3)
        self.assertEqual(second.cost(), 0)
        self.assertEqual(second.step(1, 1), 39)


if __name__ == "__main__":
    unittest.main()
