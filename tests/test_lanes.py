"""Points 31, 32 and 34 to 36: lanes, the rule of a pool, the cost of a step, the reserve."""

import random
import unittest

from cases import FOUR_RATES, LARGEST, ONE_RATE, PLAIN, random_run, random_tariff, slow_idle_state, slow_rows
from ebbkeep.lanes import Pool, from_parts


def filled(tariff, states):
    """Return the states of all 40 lanes, of which these are the first ones and the others are off."""
    return tuple(states) + (len(tariff[0]),) * (40 - len(states))


def told_pool(tariff, prices, needs, breaks):
    pool = Pool(tariff)
    for t, price in enumerate(prices):
        pool.step(price, needs[t])
        if t in breaks:
            pool.end_break()
    return pool


def view(pool):
    return (pool.tariff, pool.states(), pool.spent(), pool.reserve(), pool.parts())


class New(unittest.TestCase):
    def test_all_lanes_are_off_and_nothing_was_spent(self):
        for tariff in (ONE_RATE, PLAIN, FOUR_RATES):
            pool = Pool(tariff)
            last = len(tariff[0])
            self.assertEqual(pool.tariff, tariff)
            self.assertEqual(pool.states(), (last,) * 40)
            self.assertEqual((pool.spent(), pool.reserve()), (0, 0))
            self.assertEqual(pool.parts(), (((last, 0, 0),) * 40, 0))

    def test_a_break_before_everything(self):
        pool = Pool(PLAIN)
        self.assertIsNone(pool.end_break())
        self.assertEqual(view(pool), view(Pool(PLAIN)))

    def test_a_step_without_need(self):
        pool = Pool(PLAIN)
        self.assertEqual(pool.step(100, 0), ((2,) * 40, 0))
        self.assertEqual(view(pool), view(Pool(PLAIN)))


class Steps(unittest.TestCase):
    def test_example(self):
        pool = Pool(PLAIN)
        self.assertEqual(pool.step(5, 3), (filled(PLAIN, [0, 0, 0]), 3 * (45 + 30)))
        self.assertEqual((pool.spent(), pool.reserve()), (225, 90))
        self.assertEqual(pool.step(1, 1), (filled(PLAIN, [0, 1, 1]), 9 + 2 + 2))
        self.assertEqual((pool.spent(), pool.reserve()), (238, 30 + 28 + 28))
        self.assertEqual(pool.step(11, 2), (filled(PLAIN, [0, 0, 1]), 99 + 99 + 5 + 22))
        self.assertEqual((pool.spent(), pool.reserve()), (463, 30 + 30 + 6))
        self.assertEqual(pool.parts()[0][:4], ((0, 0, 0), (0, 0, 0), (1, 12, 24), (2, 0, 0)))
        self.assertEqual(pool.step(1, 0), (filled(PLAIN, [1, 1]), 4))
        self.assertEqual(pool.parts()[0][:4], ((1, 1, 2), (1, 1, 2), (2, 0, 0), (2, 0, 0)))
        self.assertEqual((pool.spent(), pool.reserve()), (467, 56))

    def test_example_of_a_snapshot(self):
        pool = Pool(PLAIN)
        pool.step(1, 2)
        pool.step(5, 1)
        self.assertEqual(pool.parts()[0][:3], ((0, 0, 0), (1, 5, 10), (2, 0, 0)))

    def test_needs_of_0_and_40(self):
        pool = Pool(ONE_RATE)
        self.assertEqual(pool.step(1, 40), ((0,) * 40, 40 * 25))
        self.assertEqual(pool.reserve(), 40 * 20)
        self.assertEqual(pool.step(1, 0), ((0,) * 40, 40 * 5))
        self.assertEqual(pool.reserve(), 40 * 15)
        self.assertEqual(pool.step(100, 0), ((1,) * 40, 0))
        self.assertEqual((pool.spent(), pool.reserve()), (1200, 0))

    def test_the_same_need_a_lesser_and_a_greater_one(self):
        pool = Pool(FOUR_RATES)
        self.assertEqual(pool.step(2, 4)[1], 4 * (40 + 150))
        self.assertEqual(pool.step(2, 4)[1], 4 * 40)
        self.assertEqual(pool.step(2, 3)[1], 3 * 40 + 18)
        self.assertEqual(pool.step(2, 5)[1], 5 * 40 + 11 + 150)

    def test_prices_of_1_and_100(self):
        self.assertEqual(Pool(PLAIN).step(1, 1)[1], 9 + 30)
        self.assertEqual(Pool(PLAIN).step(100, 1)[1], 900 + 30)
        pool = Pool(LARGEST)
        self.assertEqual(pool.step(100, 40)[1], 40 * (1000000 + 10000))

    def test_waking_from_every_state(self):
        for total, cost in ((1, 0), (2, 11), (9, 40), (20, 90), (70, 150)):
            pool = Pool(FOUR_RATES)
            pool.step(1, 1)
            pool.step(total, 0)
            self.assertEqual(pool.states()[0], slow_idle_state(FOUR_RATES, total))
            self.assertEqual(pool.step(1, 1), (filled(FOUR_RATES, [0]), 20 + cost))

    def test_totals_at_a_change_of_the_idle_state(self):
        # hot 5x, off 20: as cheap at 4, where hot stays.
        for total, state in ((3, 0), (4, 0), (5, 1)):
            pool = Pool(ONE_RATE)
            pool.step(1, 1)
            self.assertEqual(pool.step(total, 0)[0][0], state)
        # 20x, 9x + 11, 4x + 40, x + 90, 150: as cheap at 1; then 6 is a change; as cheap at 60.
        for total, state in ((1, 0), (2, 1), (5, 1), (6, 2), (16, 2), (17, 3), (59, 3), (60, 3), (61, 4)):
            pool = Pool(FOUR_RATES)
            pool.step(1, 1)
            self.assertEqual(pool.step(total, 0)[0][0], state, total)

    def test_the_total_counts_moments_after_the_last_need_only(self):
        pool = Pool(ONE_RATE)
        for price in (100, 4):
            pool.step(price, 1)
        self.assertEqual(pool.step(4, 0), (filled(ONE_RATE, [0]), 20))
        pool.step(1, 1)
        self.assertEqual(pool.step(4, 0), (filled(ONE_RATE, [0]), 20))
        self.assertEqual(pool.parts()[0][0], (0, 4, 20))
        self.assertEqual(pool.step(1, 0), (filled(ONE_RATE, [1]), 0))

    def test_a_lane_that_goes_off_in_the_latest_moment(self):
        pool = Pool(PLAIN)
        pool.step(1, 1)
        pool.step(10, 0)
        self.assertEqual((pool.parts()[0][0], pool.reserve()), ((1, 10, 20), 10))
        pool.step(10, 0)
        self.assertEqual((pool.parts()[0][0], pool.reserve()), ((2, 0, 0), 0))
        pool.step(10, 0)
        self.assertEqual((pool.parts()[0][0], pool.reserve()), ((2, 0, 0), 0))

    def test_same_lanes_for_the_same_need(self):
        chance = random.Random(34)
        for _ in range(60):
            tariff, prices, needs, breaks = random_run(chance, 12, 40)
            pool = Pool(tariff)
            for t, price in enumerate(prices):
                states = pool.step(price, needs[t])[0]
                self.assertEqual(len(states), 40)
                self.assertEqual(states[:needs[t]], (0,) * needs[t])
                if t in breaks:
                    pool.end_break()

    def test_an_idle_lane_never_gets_warmer(self):
        chance = random.Random(35)
        for _ in range(60):
            pool = Pool(random_tariff(chance))
            before = pool.step(1, 3)[0]
            for _ in range(30):
                states = pool.step(chance.randint(1, 100), 1)[0]
                self.assertTrue(all(new >= old for old, new in zip(before[1:], states[1:])))
                before = states

    def test_against_looking_back_from_each_moment(self):
        chance = random.Random(36)
        for _ in range(150):
            tariff, prices, needs, breaks = random_run(chance, 10, 5)
            pool = Pool(tariff)
            rows = []
            for t, price in enumerate(prices):
                rows.append(pool.step(price, needs[t]))
                self.assertEqual(pool.states(), rows[-1][0])
                self.assertEqual(pool.spent(), sum(cost for _, cost in rows))
                if t in breaks:
                    pool.end_break()
                    self.assertEqual(pool.states(), (len(tariff[0]),) * 40)
            slow = slow_rows(tariff, prices, needs, breaks, lambda total: slow_idle_state(tariff, total))
            self.assertEqual(rows, slow)


class Breaks(unittest.TestCase):
    def test_everything_is_off_and_free(self):
        pool = Pool(PLAIN)
        pool.step(2, 3)
        pool.step(1, 1)
        spent = pool.spent()
        self.assertIsNone(pool.end_break())
        self.assertEqual(pool.parts(), (((2, 0, 0),) * 40, spent))
        self.assertEqual((pool.states(), pool.spent(), pool.reserve()), ((2,) * 40, spent, 0))

    def test_lanes_stay_off_until_they_are_needed_and_wake_from_off(self):
        pool = Pool(PLAIN)
        pool.step(2, 2)
        pool.end_break()
        self.assertEqual(pool.step(1, 0), ((2,) * 40, 0))
        self.assertEqual(pool.step(1, 1), (filled(PLAIN, [0]), 9 + 30))

    def test_two_breaks(self):
        pool = Pool(ONE_RATE)
        pool.step(1, 1)
        pool.end_break()
        pool.end_break()
        self.assertEqual(pool.step(1, 1)[1], 25)
        pool.end_break()
        self.assertEqual(pool.step(1, 1)[1], 25)


class After(unittest.TestCase):
    def test_as_a_real_step_and_nothing_changes(self):
        chance = random.Random(360)
        for _ in range(60):
            tariff, prices, needs, breaks = random_run(chance, 10, 6)
            pool = told_pool(tariff, prices, needs, breaks)
            kept = view(pool)
            for price, need in ((1, 0), (100, 0), (1, 40), (100, 40), (chance.randint(1, 100), chance.randint(0, 8))):
                told = pool.after(price, need)
                self.assertEqual(view(pool), kept)
                other = from_parts(tariff, pool.parts())
                other.step(price, need)
                self.assertEqual(told, (other.spent(), other.reserve()))

    def test_in_a_new_pool(self):
        self.assertEqual(Pool(PLAIN).after(7, 0), (0, 0))
        self.assertEqual(Pool(PLAIN).after(7, 2), (2 * 93, 60))


class Reserve(unittest.TestCase):
    def test_all_further_steps_without_need_cost_at_most_the_reserve(self):
        chance = random.Random(361)
        for _ in range(150):
            pool = told_pool(*random_run(chance, 10, 6))
            for _ in range(30):
                together = pool.spent() + pool.reserve()
                pool.step(chance.choice([1, 1, 2, 100, chance.randint(1, 100)]), 0)
                self.assertLessEqual(pool.spent() + pool.reserve(), together)
                self.assertGreaterEqual(pool.reserve(), 0)
                if chance.random() < 0.05:
                    together = pool.spent() + pool.reserve()
                    pool.end_break()
                    self.assertLessEqual(pool.spent() + pool.reserve(), together)


class Parts(unittest.TestCase):
    def test_a_pool_from_parts_goes_on_like_the_other_one(self):
        chance = random.Random(362)
        for _ in range(60):
            pool = told_pool(*random_run(chance, 10, 6))
            kept = view(pool)
            other = from_parts(pool.tariff, pool.parts())
            self.assertEqual(view(other), kept)
            told = []
            for _ in range(8):
                told.append((chance.randint(1, 20), chance.randint(0, 6), chance.random() < 0.1))
            views = []
            for price, need, is_break in told:
                views.append((other.step(price, need), view(other)))
                if is_break:
                    other.end_break()
            self.assertEqual(view(pool), kept)
            for (price, need, is_break), expected in zip(told, views):
                self.assertEqual((pool.step(price, need), view(pool)), expected)
                if is_break:
                    pool.end_break()

    def test_pools_with_one_tariff_do_not_touch_each_other(self):
        first, second = Pool(PLAIN), Pool(PLAIN)
        first.step(1, 5)
        self.assertEqual(second.states(), (2,) * 40)
        self.assertEqual(second.spent(), 0)

    def test_given_parts(self):
        parts = (((0, 0, 0), (1, 5, 10)) + ((2, 0, 0),) * 38, 321)
        pool = from_parts(PLAIN, parts)
        self.assertEqual(pool.parts(), parts)
        self.assertEqual((pool.tariff, pool.spent(), pool.reserve()), (PLAIN, 321, 30 + 20))
        self.assertEqual(pool.step(8, 0), (filled(PLAIN, [1]), 16))
        self.assertEqual(pool.parts()[0][:2], ((1, 8, 16), (2, 0, 0)))


class Kinds(unittest.TestCase):
    def test_tuples_of_integers(self):
        pool = Pool(PLAIN)
        states, cost = pool.step(3, 2)
        self.assertIs(type(states), tuple)
        self.assertTrue(all(type(number) is int for number in states + (cost, pool.spent(), pool.reserve())))
        lanes, spent = pool.parts()
        self.assertIs(type(lanes), tuple)
        self.assertTrue(all(type(lane) is tuple and len(lane) == 3 for lane in lanes))
        self.assertIs(type(pool.after(1, 1)), tuple)


if __name__ == "__main__":
    unittest.main()
