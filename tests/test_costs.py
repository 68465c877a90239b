"""Points 32, 35 and 37: runs by the rule, their costs and rows."""

import random
import time
import unittest

from cases import FOUR_RATES, ONE_RATE, PLAIN, random_run, slow_idle_state, slow_rows
from ebbkeep.costs import run_cost, run_rows
from ebbkeep.lanes import Pool


def pool_rows(tariff, prices, needs, breaks):
    pool = Pool(tariff)
    rows = []
    for t, price in enumerate(prices):
        rows.append(pool.step(price, needs[t]))
        if t in breaks:
            pool.end_break()
    return rows


class Runs(unittest.TestCase):
    def test_example(self):
        prices, needs = [5, 1, 11, 1], [3, 1, 2, 0]
        rows = run_rows(PLAIN, prices, needs, [])
        self.assertEqual([cost for _, cost in rows], [225, 13, 225, 4])
        self.assertEqual([states[:4] for states, _ in rows], [(0, 0, 0, 2), (0, 1, 1, 2), (0, 0, 1, 2), (1, 1, 2, 2)])
        self.assertEqual(run_cost(PLAIN, prices, needs, []), 467)

    def test_no_moments(self):
        self.assertEqual(run_rows(PLAIN, [], [], []), [])
        self.assertEqual(run_cost(PLAIN, [], [], []), 0)

    def test_nothing_needed(self):
        self.assertEqual(run_cost(PLAIN, [3, 100], [0, 0], [0]), 0)
        self.assertEqual(run_rows(PLAIN, [3], [0], []), [((2,) * 40, 0)])

    def test_all_lanes(self):
        self.assertEqual(run_cost(FOUR_RATES, [100, 100], [40, 40], []), 40 * (2000 + 2000 + 150))

    def test_a_break_after_the_first_moment(self):
        self.assertEqual(run_cost(ONE_RATE, [1, 1], [1, 1], []), 20 + 5 + 5)
        self.assertEqual(run_cost(ONE_RATE, [1, 1], [1, 1], [0]), 20 + 5 + 20 + 5)

    def test_breaks_after_two_moments_in_a_row(self):
        self.assertEqual(run_cost(ONE_RATE, [1, 1, 1], [1, 1, 1], [0, 1]), 3 * 25)

    def test_a_break_after_the_last_moment_has_no_effect(self):
        for needs in ([1, 1], [1, 0]):
            self.assertEqual(run_rows(ONE_RATE, [1, 1], needs, [1]), run_rows(ONE_RATE, [1, 1], needs, []))

    def test_a_break_in_the_middle_of_a_gap(self):
        self.assertEqual(run_cost(ONE_RATE, [1] * 4, [1, 0, 0, 1], []), 20 + 5 * 4)
        self.assertEqual(run_cost(ONE_RATE, [1] * 4, [1, 0, 0, 1], [1]), 20 + 5 + 5 + 0 + 25)
        self.assertEqual(run_cost(ONE_RATE, [1] * 4, [1, 0, 0, 1], [0]), 20 + 5 + 0 + 0 + 25)
        self.assertEqual(run_cost(ONE_RATE, [1] * 4, [1, 0, 0, 1], [2]), 20 + 5 + 5 + 5 + 25)

    def test_against_looking_back_and_a_pool(self):
        chance = random.Random(37)
        for _ in range(200):
            run = tariff, prices, needs, breaks = random_run(chance, 10, 5)
            rows = run_rows(*run)
            slow = slow_rows(tariff, prices, needs, breaks, lambda total: slow_idle_state(tariff, total))
            self.assertEqual(rows, slow)
            self.assertEqual(rows, pool_rows(*run))
            self.assertEqual(run_cost(*run), sum(cost for _, cost in slow))

    def test_runs_that_agree_up_to_a_moment(self):
        chance = random.Random(38)
        for _ in range(150):
            tariff, prices, needs, breaks = random_run(chance, 14, 6)
            agree = chance.randint(0, len(prices))
            more = chance.randint(0, 5)
            other = (
                prices[:agree] + [chance.randint(1, 100) for _ in range(more)],
                needs[:agree] + [chance.randint(0, 6) for _ in range(more)],
                [t for t in breaks if t < agree - 1] + [t for t in range(max(0, agree - 1), agree + more) if t % 2],
            )
            self.assertEqual(run_rows(tariff, prices, needs, breaks)[:agree], run_rows(tariff, *other)[:agree])

    def test_long_runs_are_quick(self):
        chance = random.Random(39)
        prices = [chance.randint(1, 100) for _ in range(500)]
        needs = [chance.randint(0, 40) for _ in range(500)]
        start = time.perf_counter()
        rows = run_rows(FOUR_RATES, prices, needs, list(range(0, 500, 9)))
        self.assertEqual(run_cost(FOUR_RATES, prices, needs, list(range(0, 500, 9))), sum(cost for _, cost in rows))
        self.assertLess(time.perf_counter() - start, 5)

    def test_arguments_stay_as_they_are_and_nothing_is_shared(self):
        run = (PLAIN, [5, 1, 11], [3, 1, 2], [1])
        kept = (PLAIN, [5, 1, 11], [3, 1, 2], [1])
        rows = run_rows(*run)
        run_cost(*run)
        self.assertEqual(run, kept)
        expected = list(rows)
        rows.clear()
        self.assertEqual(run_rows(*run), expected)


if __name__ == "__main__":
    unittest.main()
