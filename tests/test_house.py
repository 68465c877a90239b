"""Points 62 to 67: the house, its moments, reasons, deeds and record, and starting a house again."""

import copy
import random
import time
import unittest

from cases import FOUR_RATES, ONE_RATE, PLAIN
from ebbkeep.errors import InvalidRow, InvalidSetting
from ebbkeep.house import House, reason, restart, wanted
from ebbkeep.lanes import Pool
from houses import (
    NAMES, changed, changed_service, house_of, random_house, random_ledger, random_setting, service, slow_record,
)

DOCUMENT = (
    9,
    (("web", 4, 0, 3, 2, 6, 5000, (9, 2), (0, 5, 30)), ("mail", 8, 1, 10, 1, 4, 900, (7,), (0, 20))),
    (("web", 2, 8, 18, 24),),
)


def view(house):
    """Return all that a house tells."""
    each = range(len(house.setting()[1]))
    return (house.setting(), house.record(), house.ledger(), house.now(), [house.queue_rows(k) for k in each],
            [house.pool_parts(k) for k in each])


def filled(states, last):
    return tuple(states) + (last,) * (40 - len(states))


def column(record, part, k=0):
    return [deeds[k][part] for deeds in record]


class New(unittest.TestCase):
    def test_empty_and_off(self):
        house = House(DOCUMENT)
        off = [(((2, 0, 0),) * 40, 0), (((1, 0, 0),) * 40, 0)]
        self.assertEqual(view(house), (DOCUMENT, [], [], 0, [[], []], off))

    def test_right_settings(self):
        for setting in (house_of(service()), house_of(*[service(name) for name in NAMES], quota=0),
                        house_of(service(), keeps=[("web", 40, 0, 100, 100)] * 12)):
            self.assertEqual(House(setting).setting(), setting)

    def test_wrong_settings(self):
        wrong = [
            house_of(), house_of(service(), quota=-1), house_of(service(), quota=201), house_of(service(), service()),
            house_of(*[service(name) for name in NAMES + ("seventh",)]), house_of(service(name="Web")),
            house_of(service(), keeps=[("web", 1, 0, 1, 1)] * 13), house_of(service(), keeps=[("mail", 1, 0, 1, 1)]),
            house_of(service(), keeps=[("web", 0, 0, 1, 1)]), house_of(service(), keeps=[("web", 41, 0, 1, 1)]),
            house_of(service(), keeps=[("web", 1, -1, 1, 1)]), house_of(service(), keeps=[("web", 1, 1, 1, 1)]),
            house_of(service(), keeps=[("web", 1, 0, 2, 1)]), house_of(service(), keeps=[("web", 1, 0, 1, 101)]),
        ]
        for at, value in ((0, ""), (1, 0), (1, 65), (2, 11), (2, -1), (3, 21), (3, -1), (4, 0), (4, 10), (5, -1), (5, 41), (6, -1),
                          (6, 1000001), (7, ()), (7, (0,)), (7, (5, 5)), (8, (0,)), (8, (1, 20)), (8, (0, 0))):
            wrong.append(changed_service(DOCUMENT, 1, at, value))
        for setting in wrong:
            with self.assertRaises(InvalidSetting, msg=setting):
                House(setting)
            with self.assertRaises(InvalidSetting, msg=setting):
                restart(setting, [])


class Wanted(unittest.TestCase):
    def test_rounded_up(self):
        for due, want in ((0, 0), (1, 1), (4, 1), (5, 2), (8, 2), (9, 3)):
            self.assertEqual(wanted(due, 4, 40), want)

    def test_the_most(self):
        for most in range(4):
            self.assertEqual(wanted(9, 4, most), most)
        self.assertEqual(wanted(9, 4, 4), 3)
        self.assertEqual(wanted(21000, 1, 40), 40)


class Reason(unittest.TestCase):
    def test_each_reason(self):
        self.assertEqual(reason(0, 0, 0, 0, 0), "all")
        self.assertEqual(reason(5, 5, 2, 2, 2), "all")
        self.assertEqual(reason(5, 4, 2, 2, 1), "quota")
        self.assertEqual(reason(5, 4, 2, 1, 1), "budget")
        self.assertEqual(reason(9, 8, 2, 2, 2), "most")

    def test_the_first_that_holds(self):
        self.assertEqual(reason(5, 5, 3, 2, 1), "all")
        self.assertEqual(reason(5, 1, 3, 2, 1), "quota")
        self.assertEqual(reason(5, 0, 3, 0, 0), "budget")
        self.assertEqual(reason(5, 0, 0, 0, 0), "most")
        self.assertEqual(reason(9, 4, 3, 1, 2), "most")


class Moments(unittest.TestCase):
    def test_one_service(self):
        house = House(house_of(service(room=4, patience=3, most=6, budget=5000, tariff=PLAIN)))
        # Three machines are woken for 30 each and hot for 9 times the price.
        first = [(5, 12, False, 12, 3, 3, 3, 12, 0, "all", 3, filled([0, 0, 0], 2), 3 * 75)]
        self.assertEqual(house.moment([(5, 12, False)]), first)
        second = [(1, 2, False, 2, 1, 1, 1, 2, 0, "all", 1, filled([0, 1, 1], 2), 9 + 2 + 2)]
        self.assertEqual(house.moment([(1, 2, False)]), second)
        third = [(12, 0, True, 0, 0, 0, 0, 0, 0, "all", 0, filled([1], 2), 24)]
        self.assertEqual(house.moment([(12, 0, True)]), third)
        fourth = [(1, 1, False, 1, 1, 1, 1, 1, 0, "all", 1, filled([0], 2), 39)]
        self.assertEqual(house.moment([(1, 1, False)]), fourth)
        self.assertEqual(house.record(), [first, second, third, fourth])
        self.assertEqual(house.ledger(), [[(5, 12, False)], [(1, 2, False)], [(12, 0, True)], [(1, 1, False)]])
        self.assertEqual(house.now(), 4)
        self.assertEqual(house.pool_parts(0), (((0, 0, 0),) + ((2, 0, 0),) * 39, 225 + 13 + 24 + 39))

    def test_a_lag(self):
        house = House(house_of(service(lag=1, patience=2)))
        for came, due in ((3, 0), (1, 3), (0, 1), (0, 0)):
            self.assertEqual(house.moment([(1, came, False)])[0][3], due)

    def test_a_lag_of_0(self):
        house = House(house_of(service(most=1, patience=2)))
        self.assertEqual([house.moment([(1, came, False)])[0][3] for came in (3, 1, 0, 0)], [3, 3, 2, 1])

    def test_rows_of_the_queue_and_drops(self):
        house = House(house_of(service(room=2, most=1, patience=1)))
        self.assertEqual(house.moment([(1, 5, False)])[0][7:10], (2, 0, "most"))
        self.assertEqual(house.queue_rows(0), [(0, 3)])
        self.assertEqual(house.moment([(1, 4, False)])[0][7:10], (2, 1, "most"))
        self.assertEqual(house.queue_rows(0), [(1, 4)])

    def test_the_quota_is_shared_by_limits_and_weights(self):
        house = House(house_of(service("a", weight=2), service("b", weight=1), service("c", weight=1, most=0), quota=3))
        deeds = house.moment([(1, 9, False), (1, 9, False), (1, 9, False)])
        self.assertEqual([deed[6] for deed in deeds], [2, 1, 0])
        self.assertEqual([deed[9] for deed in deeds], ["quota", "quota", "most"])

    def test_a_service_that_has_no_budget_takes_no_share(self):
        house = House(house_of(service("a", budget=0), service("b"), quota=2))
        deeds = house.moment([(1, 9, False), (1, 9, False)])
        self.assertEqual([deed[4:7] for deed in deeds], [(9, 0, 0), (9, 9, 2)])
        self.assertEqual([deed[9] for deed in deeds], ["budget", "quota"])

    def test_a_quota_of_0(self):
        house = House(house_of(service("a"), service("b"), quota=0))
        for _ in range(3):
            for deed in house.moment([(1, 2, False), (1, 0, False)]):
                self.assertEqual((deed[6], deed[7], deed[10], deed[12]), (0, 0, 0, 0))
        self.assertEqual([deed[9] for deed in house.record()[2]], ["quota", "all"])

    def test_each_reason(self):
        setting = house_of(service("a", budget=90), service("b", most=1), service("c"), service("d"), quota=6)
        deeds = House(setting).moment([(1, 3, False), (1, 2, False), (1, 2, False), (1, 1, False)])
        self.assertEqual([deed[6] for deed in deeds], [2, 1, 2, 1])
        self.assertEqual([deed[9] for deed in deeds], ["budget", "most", "all", "all"])
        deeds = House(changed(setting, 0, 5)).moment([(1, 3, False), (1, 2, False), (1, 2, False), (1, 1, False)])
        self.assertEqual([deed[6] for deed in deeds], [2, 1, 1, 1])
        self.assertEqual([deed[9] for deed in deeds], ["budget", "most", "quota", "all"])

    def test_the_states_are_those_before_a_break(self):
        house = House(house_of(service()))
        deed = house.moment([(1, 2, True)])[0]
        self.assertEqual(deed[11], filled([0, 0], 1))
        self.assertEqual(house.pool_parts(0), (((1, 0, 0),) * 40, 50))
        self.assertEqual(house.moment([(1, 2, False)])[0][12], 50)

    def test_a_break_of_one_service_leaves_the_others(self):
        house = House(house_of(service("a"), service("b")))
        house.moment([(1, 1, True), (1, 1, False)])
        self.assertEqual([deed[12] for deed in house.moment([(1, 1, False), (1, 1, False)])], [25, 5])

    def test_prices_of_their_own(self):
        house = House(house_of(service("a"), service("b")))
        self.assertEqual([deed[12] for deed in house.moment([(1, 1, False), (100, 1, False)])], [25, 520])

    def test_tariffs_of_their_own(self):
        house = House(house_of(service("a"), service("b", tariff=FOUR_RATES)))
        house.moment([(1, 1, False), (1, 1, False)])
        deeds = house.moment([(6, 0, False), (6, 0, False)])
        self.assertEqual([deed[11][:2] for deed in deeds], [(1, 1), (2, 4)])


class Keeps(unittest.TestCase):
    def needs(self, keeps, moments=8, came=0, **parts):
        house = House(house_of(service(**parts), keeps=keeps))
        return [house.moment([(1, came, False)])[0][10] for _ in range(moments)]

    def test_from_the_moment_0_and_to_the_end_of_the_period(self):
        self.assertEqual(self.needs([("web", 3, 0, 2, 4)]), [3, 3, 0, 0] * 2)
        self.assertEqual(self.needs([("web", 3, 2, 4, 4)]), [0, 0, 3, 3] * 2)
        self.assertEqual(self.needs([("web", 3, 1, 3, 4)]), [0, 3, 3, 0] * 2)

    def test_always(self):
        self.assertEqual(self.needs([("web", 1, 0, 1, 1)]), [1] * 8)
        self.assertEqual(self.needs([("web", 40, 0, 100, 100)]), [40] * 8)

    def test_the_greatest_of_several(self):
        keeps = [("web", 2, 0, 3, 4), ("web", 5, 1, 2, 4), ("web", 1, 0, 2, 2)]
        self.assertEqual(self.needs(keeps), [2, 5, 2, 1] * 2)
        self.assertEqual(self.needs(keeps[::-1]), [2, 5, 2, 1] * 2)

    def test_a_keep_for_another_service(self):
        house = House(house_of(service("a"), service("b"), keeps=[("b", 2, 0, 1, 2)]))
        told = [house.moment([(1, 0, False)] * 2) for _ in range(3)]
        self.assertEqual([[deed[10] for deed in deeds] for deeds in told], [[0, 2], [0, 0], [0, 2]])

    def test_what_is_given_may_be_more(self):
        self.assertEqual(self.needs([("web", 3, 0, 1, 2)], came=2), [3, 2] * 4)
        self.assertEqual(self.needs([("web", 2, 0, 1, 1)], came=3), [3] * 8)

    def test_kept_machines_run_nothing_and_take_no_quota(self):
        house = House(house_of(service(), quota=1, keeps=[("web", 3, 0, 1, 1)]))
        deed = house.moment([(1, 2, False)])[0]
        self.assertEqual(deed[6:11], (1, 1, 1, "quota", 3))
        self.assertEqual(deed[11], filled([0, 0, 0], 1))

    def test_the_most_does_not_bind_a_keep(self):
        self.assertEqual(self.needs([("web", 3, 0, 1, 1)], most=1, came=2), [3] * 8)

    def test_the_budget_binds_a_keep(self):
        self.assertEqual(self.needs([("web", 3, 0, 1, 1)], budget=90), [2] + [0] * 7)
        self.assertEqual(self.needs([("web", 3, 0, 1, 1)], budget=44), [0] * 8)
        # Behind three machines 135 are spent or held back, so just one of them can go on, for one moment.
        self.assertEqual(self.needs([("web", 3, 0, 1, 1)], budget=140), [3, 1] + [0] * 6)

    def test_a_keep_is_the_need_that_its_budget_allows_and_given_is_more(self):
        # The budget allows 2 of 3 kept ones, but one is given anyway.
        deed = House(house_of(service(budget=90), keeps=[("web", 3, 0, 1, 1)])).moment([(1, 1, False)])[0]
        self.assertEqual((deed[5], deed[6], deed[10]), (1, 1, 2))


class WrongEntries(unittest.TestCase):
    WRONG = (
        [], [(1, 0, False)], [(1, 0, False)] * 3, [(0, 0, False), (1, 0, False)], [(101, 0, False), (1, 0, False)],
        [(1, -1, False), (1, 0, False)], [(1, 1001, True), (1, 0, False)], [(1, 0, False), (0, 5, True)],
        [(1, 0, False), (101, 0, False)], [(1, 0, False), (1, -1, False)], [(1, 0, False), (1, 1001, False)],
        [(-7, 0, False), (1, 0, False)], [(10**30, 10**30, False), (1, 0, False)],
    )

    def test_they_raise_and_change_nothing(self):
        house = House(DOCUMENT)
        for t in range(4):
            before = copy.deepcopy(view(house))
            for entry in self.WRONG:
                with self.assertRaises(InvalidRow, msg=entry):
                    house.moment(entry)
                self.assertEqual(view(house), before)
            house.moment([(5, 9, t == 1), (3, 40, False)])
        self.assertEqual(house.record(), restart(DOCUMENT, house.ledger()).record())

    def test_the_bounds_are_right(self):
        house = House(DOCUMENT)
        for price, came in ((1, 0), (100, 1000), (1, 1000), (100, 0)):
            self.assertEqual(len(house.moment([(price, came, False), (price, came, True)])), 2)

    def test_a_ledger_with_a_wrong_entry(self):
        for entry in self.WRONG:
            with self.assertRaises(InvalidRow):
                restart(DOCUMENT, [[(1, 0, False), (1, 0, False)], entry])


class Restart(unittest.TestCase):
    def test_from_the_empty_ledger(self):
        self.assertEqual(view(restart(DOCUMENT, [])), view(House(DOCUMENT)))

    def test_from_a_whole_ledger_and_from_a_part(self):
        chance = random.Random(67)
        for _ in range(60):
            setting, ledger = random_house(chance)
            house = restart(setting, ledger)
            self.assertEqual(house.ledger(), ledger)
            again = restart(house.setting(), house.ledger())
            self.assertEqual(view(again), view(house))
            cut = chance.randint(0, len(ledger))
            part = restart(setting, ledger[:cut])
            self.assertEqual(part.record(), house.record()[:cut])
            deeds = [part.moment(entry) for entry in ledger[cut:]]
            self.assertEqual(deeds, house.record()[cut:])
            self.assertEqual(view(part), view(house))

    def test_later_entries_do_not_change_what_was_decided(self):
        chance = random.Random(66)
        for _ in range(40):
            setting, ledger = random_house(chance)
            cut = chance.randint(0, len(ledger))
            other = ledger[:cut] + random_ledger(chance, setting)
            self.assertEqual(restart(setting, other).record()[:cut], restart(setting, ledger).record()[:cut])


class Drawn(unittest.TestCase):
    def test_against_the_words_of_point_63(self):
        chance = random.Random(63)
        seen = dict.fromkeys(["all", "quota", "budget", "most", "kept", "drop", "break"], 0)
        for _ in range(120):
            setting, ledger = random_house(chance)
            record = restart(setting, ledger).record()
            self.assertEqual(record, slow_record(setting, ledger))
            for deeds in record:
                for deed in deeds:
                    seen[deed[9]] += 1
                    seen["kept"] += deed[10] > deed[6]
                    seen["drop"] += deed[8] > 0
                    seen["break"] += deed[2]
        self.assertGreater(min(seen.values()), 50, seen)

    def test_budget_quota_and_most_are_kept_in_every_moment(self):
        chance = random.Random(61)
        for _ in range(150):
            setting, ledger = random_house(chance, longest=25, most=40)
            house = House(setting)
            for entry in ledger:
                deeds = house.moment(entry)
                self.assertLessEqual(sum(deed[6] for deed in deeds), setting[0])
                for k, (one, deed) in enumerate(zip(setting[1], deeds)):
                    lanes, spent = house.pool_parts(k)
                    last, away = len(one[7]), one[8][-1]
                    reserve = sum(away - cost for state, _, cost in lanes if state != last)
                    self.assertLessEqual(spent + reserve, one[6])
                    self.assertLessEqual(deed[6], min(one[5], deed[4], deed[5]))
                    self.assertLessEqual(deed[7], min(deed[3], deed[6] * one[1]))
                    self.assertEqual(spent, sum(column(house.record(), 12, k)))

    def test_the_parts_of_the_pool_are_those_of_a_pool_with_the_needs(self):
        chance = random.Random(65)
        for _ in range(40):
            setting, ledger = random_house(chance)
            house = restart(setting, ledger)
            for k, one in enumerate(setting[1]):
                pool = Pool(one[7:])
                for deeds in house.record():
                    self.assertEqual(pool.step(deeds[k][0], deeds[k][10]), deeds[k][11:])
                    if deeds[k][2]:
                        pool.end_break()
                self.assertEqual(pool.parts(), house.pool_parts(k))


class Long(unittest.TestCase):
    def test_six_services_and_500_moments_are_quick(self):
        chance = random.Random(500)
        tariffs = [ONE_RATE, PLAIN, FOUR_RATES, ((4, 3, 2, 1), (0, 10, 250, 600, 1000))]
        services = [service(name, 1, 0, 20, 9 - k, 40, 1000000, tariffs[k % 4]) for k, name in enumerate(NAMES)]
        keeps = [(name, 40, 0, 5, 10) for name in NAMES] + [(name, 20, 0, 7, 10) for name in NAMES]
        setting = house_of(*services, keeps=keeps)
        for most in (20, 1000):
            ledger = [
                [(chance.randint(1, 9), chance.randint(0, most), chance.random() < 0.02) for _ in NAMES] for _ in range(500)
            ]
            start = time.perf_counter()
            house = restart(setting, ledger)
            self.assertLess(time.perf_counter() - start, 5)
            self.assertEqual(house.now(), 500)


class NothingIsShared(unittest.TestCase):
    def test_what_the_house_was_given(self):
        entry = [(5, 9, False), (3, 4, False)]
        house = House(DOCUMENT)
        house.moment(entry)
        before = copy.deepcopy(view(house))
        entry[0] = (7, 7, True)
        entry.append((1, 1, True))
        self.assertEqual(view(house), before)
        ledger = house.ledger()
        again = restart(DOCUMENT, ledger)
        ledger[0][0] = (1, 1, True)
        ledger.append([])
        self.assertEqual(view(again), before)

    def test_what_the_house_returned(self):
        house = House(DOCUMENT)
        deeds = house.moment([(5, 30, False), (3, 4, False)])
        before = copy.deepcopy(view(house))
        deeds[0] = ()
        deeds.append(7)
        for told in (house.record(), house.ledger()):
            told[0][0] = ()
            told[0].append(7)
            told.append(7)
        for k in (0, 1):
            house.queue_rows(k).append((0, 1))
        self.assertEqual(view(house), before)
        self.assertEqual(house.moment([(1, 0, False)] * 2), slow_record(DOCUMENT, house.ledger())[1])

    def test_arguments_stay_as_they_are(self):
        chance = random.Random(1)
        for _ in range(20):
            told = random_house(chance)
            kept = copy.deepcopy(told)
            restart(*told)
            self.assertEqual(told, kept)

    def test_two_houses(self):
        setting = random_setting(random.Random(2))
        one, other = House(setting), House(setting)
        one.moment([(1, 5, False)] * len(setting[1]))
        self.assertEqual(view(other), view(House(setting)))


if __name__ == "__main__":
    unittest.main()
