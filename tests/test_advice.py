"""Points 77 and 78: the least and the spare budget, and the machines for a service."""

import copy
import random
import time
import unittest

from cases import FOUR_RATES, ONE_RATE, PLAIN
from ebbkeep.advice import least_budget, machines_for, spare_budget
from ebbkeep.house import restart
from ebbkeep.windows import drops, least_machines, window_need
from houses import NAMES, changed_service, house_of, random_house, service


def record_with(setting, ledger, k, budget):
    return restart(changed_service(setting, k, 6, budget), ledger).record()


def changed_quota(setting, quota):
    return (quota, *setting[1:])


class LeastBudget(unittest.TestCase):
    def test_one_machine(self):
        # It costs 25, and 20 are held back behind it.
        setting = house_of(service(budget=0))
        self.assertEqual(least_budget(setting, [[(1, 1, False)]], 0), 45)
        self.assertEqual(least_budget(setting, [[(1, 1, True)]], 0), 45)
        self.assertEqual(least_budget(setting, [[(1, 1, False)], [(1, 0, False)]], 0), 45)
        self.assertEqual(least_budget(setting, [[(1, 1, False)], [(1, 1, False)]], 0), 50)
        self.assertEqual(least_budget(setting, [[(1, 3, False)]], 0), 135)

    def test_a_least_budget_of_0(self):
        setting = house_of(service("a"), service("b", most=0), service("c"))
        ledger = [[(1, 0, False), (1, 9, False), (1, 5, False)]] * 3
        self.assertEqual([least_budget(setting, ledger, k) for k in range(3)], [0, 0, 5 * 45 + 2 * 25])
        self.assertEqual(least_budget(setting, [], 2), 0)

    def test_a_service_that_no_job_comes_to_but_that_is_kept(self):
        setting = house_of(service("a"), service("b"), keeps=[("b", 2, 1, 2, 3)])
        ledger = [[(1, 0, False), (1, 0, False)]] * 3
        self.assertEqual([least_budget(setting, ledger[:many], 1) for many in range(4)], [0, 0, 90, 90])
        self.assertEqual(least_budget(setting, ledger, 0), 0)

    def test_the_limit_counts_and_not_what_the_quota_gives(self):
        setting = house_of(service(), quota=1)
        self.assertEqual(least_budget(setting, [[(1, 3, False)]], 0), 135)
        self.assertEqual(least_budget(changed_quota(setting, 0), [[(1, 3, False)]], 0), 135)

    def test_the_greater_one_of_limit_and_kept(self):
        kept = house_of(service(), keeps=[("web", 3, 0, 1, 1)])
        self.assertEqual(least_budget(kept, [[(1, 1, False)]], 0), 135)
        self.assertEqual(least_budget(kept, [[(1, 4, False)]], 0), 180)
        self.assertEqual(least_budget(changed_quota(kept, 1), [[(1, 2, False)]], 0), 135)
        self.assertEqual(least_budget(changed_quota(kept, 1), [[(1, 4, False)]], 0), 180)

    def test_a_ledger_that_even_the_greatest_budget_does_not_pay(self):
        dear = ((10000,), (0, 10000))
        setting = house_of(service(tariff=dear, budget=5))
        # One machine costs 1010000 with the price 100; with the price 49 it is 500000, and 10000 are held back.
        self.assertEqual(least_budget(setting, [[(100, 1, False)]], 0), 0)
        self.assertEqual(least_budget(setting, [[(49, 2, False)]], 0), 510000)
        self.assertEqual(least_budget(setting, [[(98, 1, False)]], 0), 1000000)

    def test_the_record_is_the_same_from_the_least_budget_on_and_not_with_one_less(self):
        chance = random.Random(77)
        seen = 0
        for _ in range(120):
            setting, ledger = random_house(chance)
            for k in range(len(setting[1])):
                least = least_budget(setting, ledger, k)
                most = record_with(setting, ledger, k, 1000000)
                self.assertTrue(0 <= least <= 1000000)
                for budget in (least, min(1000000, least + 1), chance.randint(least, 1000000)):
                    self.assertEqual(record_with(setting, ledger, k, budget), most)
                if least > 0:
                    seen += 1
                    self.assertNotEqual(record_with(setting, ledger, k, least - 1), most)
                    self.assertNotEqual(record_with(setting, ledger, k, chance.randint(0, least - 1)), most)
        self.assertGreater(seen, 50)

    def test_the_budget_in_the_setting_does_not_matter(self):
        chance = random.Random(770)
        for _ in range(30):
            setting, ledger = random_house(chance)
            budgets = [least_budget(changed_service(setting, 0, 6, budget), ledger, 0) for budget in (0, 777, 1000000)]
            self.assertEqual(len(set(budgets)), 1)

    def test_12_entries_and_500_are_quick(self):
        chance = random.Random(771)
        tariffs = [ONE_RATE, PLAIN, FOUR_RATES] * 2
        setting = house_of(*[service(name, 2, 0, 5, 1, 40, 5000, tariff) for name, tariff in zip(NAMES, tariffs)],
                           keeps=[(name, 9, 0, 1, 5) for name in NAMES])
        for length, seconds in ((12, 2), (500, 10)):
            ledger = [[(chance.randint(1, 100), chance.randint(0, 40), False) for _ in NAMES] for _ in range(length)]
            start = time.perf_counter()
            least_budget(setting, ledger, 3)
            self.assertLess(time.perf_counter() - start, seconds)


class SpareBudget(unittest.TestCase):
    LEDGER = [[(1, 1, False)]]

    def test_above_0_and_below(self):
        for budget, spare in ((0, 0), (44, 0), (45, 0), (46, 1), (1000, 955), (1000000, 999955)):
            self.assertEqual(spare_budget(house_of(service(budget=budget)), self.LEDGER, 0), spare)

    def test_no_job(self):
        for budget in (0, 1, 1000000):
            self.assertEqual(spare_budget(house_of(service(budget=budget)), [[(1, 0, False)]], 0), budget)
            self.assertEqual(spare_budget(house_of(service(budget=budget)), [], 0), budget)

    def test_each_service_has_its_own(self):
        setting = house_of(service("a", budget=50), service("b", budget=100))
        ledger = [[(1, 1, False), (1, 2, False)]]
        self.assertEqual([spare_budget(setting, ledger, k) for k in (0, 1)], [5, 10])


class MachinesFor(unittest.TestCase):
    def test_examples(self):
        setting = house_of(service("a", 4, 0, 3), service("b", 1, 1, 1))
        ledger = [[(1, came, False), (2, t, True)] for t, came in enumerate([2, 4, 7, 19, 8, 5])]
        self.assertEqual(machines_for(setting, ledger, 0), (2, (0, 3)))
        self.assertEqual(machines_for(setting, ledger, 1), (5, (4, 5)))

    def test_no_jobs(self):
        setting = house_of(service("a"), service("b"))
        self.assertEqual(machines_for(setting, [], 0), (0, None))
        self.assertEqual(machines_for(setting, [[(1, 0, False), (1, 3, False)]] * 3, 0), (0, None))

    def test_drawn_ledgers(self):
        chance = random.Random(78)
        for _ in range(100):
            setting, ledger = random_house(chance)
            for k, (_, room, lag, patience, *_) in enumerate(setting[1]):
                counts = [entry[k][1] for entry in ledger]
                machines, window = machines_for(setting, ledger, k)
                self.assertEqual((machines, window), least_machines(room, lag, patience, counts))
                self.assertEqual(drops(room, lag, patience, counts, machines), 0)
                if machines > 0:
                    self.assertGreater(drops(room, lag, patience, counts, machines - 1), 0)
                    self.assertEqual(window_need(room, lag, patience, counts, window), machines)


class NothingChanges(unittest.TestCase):
    def test_arguments_stay_as_they_are(self):
        chance = random.Random(79)
        for _ in range(20):
            told = random_house(chance)
            kept = copy.deepcopy(told)
            for advise in (least_budget, spare_budget, machines_for):
                advise(*told, 0)
            self.assertEqual(told, kept)


if __name__ == "__main__":
    unittest.main()
