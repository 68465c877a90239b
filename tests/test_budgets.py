"""Points 60 and 61: budgets and their limit."""

import random
import unittest

from cases import FOUR_RATES, ONE_RATE, PLAIN, random_tariff, small_tariff
from ebbkeep.budgets import limit
from ebbkeep.lanes import Pool, from_parts


def told_pool(tariff, moments):
    """Return a pool that was told tuples (price, need, is_break)."""
    pool = Pool(tariff)
    for price, need, is_break in moments:
        pool.step(price, need)
        if is_break:
            pool.end_break()
    return pool


def slow_limit(pool, price, want, budget):
    """Try every need on a pool of its own."""
    allowed = []
    for need in range(want + 1):
        tried = from_parts(pool.tariff, pool.parts())
        tried.step(price, need)
        if need == 0 or tried.spent() + tried.reserve() <= budget:
            allowed.append(need)
    return max(allowed)


def random_pool(chance, longest=8):
    tariff = chance.choice([small_tariff, random_tariff])(chance)
    dearest = chance.choice([1, 3, 100])
    return told_pool(tariff, [
        (chance.randint(1, dearest), chance.choice([0, chance.randint(0, 40)]), chance.random() < 0.1)
        for _ in range(chance.randint(0, longest))
    ])


class Limit(unittest.TestCase):
    def test_a_new_pool(self):
        # One machine costs 20 for the wake and 5 for being hot; behind this its reserve is 20.
        for budget, most in ((0, 0), (44, 0), (45, 1), (46, 1), (89, 1), (90, 2), (40 * 45 - 1, 39), (40 * 45, 40)):
            self.assertEqual(limit(Pool(ONE_RATE), 1, 40, budget), most, budget)
        for price, most in ((1, 2), (11, 1), (12, 0)):
            self.assertEqual(limit(Pool(ONE_RATE), price, 40, 95), most)

    def test_a_budget_that_allows_just_one_machine(self):
        self.assertEqual(limit(Pool(PLAIN), 1, 1, 69), 1)
        self.assertEqual(limit(Pool(PLAIN), 1, 40, 69), 1)
        self.assertEqual(limit(Pool(PLAIN), 1, 40, 68), 0)

    def test_a_want_of_0(self):
        for budget in (0, 45, 1000000):
            self.assertEqual(limit(Pool(ONE_RATE), 1, 0, budget), 0)

    def test_the_want_is_the_most(self):
        for want in range(41):
            self.assertEqual(limit(Pool(ONE_RATE), 1, want, 1000000), want)
            self.assertEqual(limit(Pool(ONE_RATE), 1, want, 90), min(want, 2))

    def test_a_budget_of_0(self):
        self.assertEqual(limit(Pool(ONE_RATE), 1, 40, 0), 0)

    def test_a_need_of_0_is_allowed_whatever_spent_and_reserve_are(self):
        pool = told_pool(ONE_RATE, [(100, 40, False)])
        for budget in (0, 100, 21600 - 1, 21600):
            self.assertEqual(limit(pool, 1, 40, budget), 0)
            self.assertEqual(limit(pool, 1, 0, budget), 0)

    def test_the_reserve_of_other_lanes_counts(self):
        # Spent are 50, held back 40. One lane more costs 5, and what the other one holds back stays the same.
        pool = told_pool(ONE_RATE, [(1, 2, False)])
        self.assertEqual([limit(pool, 1, 40, budget) for budget in (94, 95, 99, 100, 144, 145)], [0, 1, 1, 2, 2, 3])

    def test_a_lane_that_goes_off_holds_back_nothing(self):
        # With a price of 5 the other lane goes off, so its 20 are free.
        pool = told_pool(ONE_RATE, [(1, 2, False)])
        self.assertEqual([limit(pool, 5, 40, budget) for budget in (94, 95, 139, 140)], [0, 1, 1, 2])

    def test_a_lane_that_is_idle_pays_for_its_wake(self):
        pool = told_pool(PLAIN, [(1, 1, False), (1, 0, False)])
        self.assertEqual((pool.spent(), pool.reserve()), (41, 28))
        # To wake costs 5 and 9 for being hot, and the reserve is 30 again.
        self.assertEqual([limit(pool, 1, 40, budget) for budget in (84, 85, 153, 154)], [0, 1, 1, 2])

    def test_behind_a_break(self):
        pool = told_pool(ONE_RATE, [(1, 1, True)])
        self.assertEqual([limit(pool, 1, 40, budget) for budget in (69, 70, 114, 115)], [0, 1, 1, 2])

    def test_against_trying_every_need(self):
        chance = random.Random(60)
        between = 0
        for _ in range(400):
            pool = random_pool(chance)
            price, want = chance.choice([1, 2, 100, chance.randint(1, 100)]), chance.choice([0, 1, 5, 40])
            bounds = sorted(sum(pool.after(price, need)) for need in range(41))
            budget = max(0, chance.choice(bounds) + chance.choice([-1, 0, 1]))
            found = limit(pool, price, want, budget)
            self.assertEqual(found, slow_limit(pool, price, want, budget))
            between += 0 < found < want
        self.assertGreater(between, 50)

    def test_each_smaller_need_is_allowed(self):
        chance = random.Random(600)
        for _ in range(200):
            pool = random_pool(chance)
            price = chance.randint(1, 100)
            bounds = [sum(pool.after(price, need)) for need in range(41)]
            self.assertEqual(bounds, sorted(bounds))

    def test_the_pool_does_not_change(self):
        chance = random.Random(601)
        for _ in range(50):
            pool = random_pool(chance)
            before = (pool.parts(), pool.states(), pool.spent(), pool.reserve())
            for budget in (0, 500, 1000000):
                limit(pool, chance.randint(1, 100), 40, budget)
            self.assertEqual((pool.parts(), pool.states(), pool.spent(), pool.reserve()), before)


class Spending(unittest.TestCase):
    def test_nobody_spends_more_than_the_budget(self):
        chance = random.Random(61)
        close = 0
        for _ in range(300):
            tariff = chance.choice([small_tariff, random_tariff])(chance)
            pool = Pool(tariff)
            budget = chance.choice([0, 50, 1000, 30000])
            dearest = chance.choice([1, 3, 100])
            for _ in range(30):
                price = chance.randint(1, dearest)
                most = limit(pool, price, chance.choice([0, 3, 40]), budget)
                pool.step(price, chance.choice([most, chance.randint(0, most)]))
                self.assertLessEqual(pool.spent() + pool.reserve(), budget)
                if chance.random() < 0.1:
                    pool.end_break()
                    self.assertLessEqual(pool.spent() + pool.reserve(), budget)
            close += 0 < budget - pool.spent() < 100
        self.assertGreater(close, 20)

    def test_a_need_of_0_and_a_break_never_add_to_what_is_spent_and_held_back(self):
        chance = random.Random(610)
        for _ in range(200):
            pool = random_pool(chance)
            before = pool.spent() + pool.reserve()
            self.assertLessEqual(sum(pool.after(chance.randint(1, 100), 0)), before)
            pool.end_break()
            self.assertLessEqual(pool.spent() + pool.reserve(), before)

    def test_four_rates(self):
        # Three lanes cost 170 each and hold back 150; two that stay hot cost 40 more, and then nothing is left.
        pool = Pool(FOUR_RATES)
        told = []
        for _ in range(12):
            most = limit(pool, 1, 40, 1000)
            pool.step(1, most)
            told.append((most, pool.spent() + pool.reserve()))
        self.assertEqual(told[:3], [(3, 960), (2, 1000), (0, 1000)])
        self.assertEqual(told[3:], [(0, 1000)] * 9)


if __name__ == "__main__":
    unittest.main()
