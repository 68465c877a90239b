"""Points 69 and 70: which records are accepted, histories, and the moments of a queue in a record."""

import copy
import random
import time
import unittest

from cases import ONE_RATE, PLAIN
from ebbkeep.costs import run_rows
from ebbkeep.house import restart
from ebbkeep.queues import Queue
from ebbkeep.records import accepts_record, history, queue_moments
from houses import NAMES, changed, house_of, random_house, service, slow_record

SETTING = house_of(
    service("a", 2, 0, 2, 1, 4, 3000, PLAIN), service("b", 1, 1, 3, 1, 5, 300, ONE_RATE), quota=5,
    keeps=[("b", 2, 0, 1, 2)],
)
LEDGER = [
    [(5, 9, False), (1, 3, False)], [(1, 0, False), (2, 4, True)], [(3, 5, True), (1, 0, False)],
    [(9, 0, False), (4, 2, False)],
]


def with_deed(record, t, k, deed):
    return changed(record, t, changed(record[t], k, deed))


class AcceptsRecord(unittest.TestCase):
    def setUp(self):
        self.record = restart(SETTING, LEDGER).record()

    def refuse(self, record):
        self.assertIs(accepts_record(SETTING, LEDGER, record), False)

    def test_the_record_of_the_house(self):
        self.assertIs(accepts_record(SETTING, LEDGER, self.record), True)
        self.assertTrue(accepts_record(SETTING, LEDGER, slow_record(SETTING, LEDGER)))

    def test_one_number_changed(self):
        for t in range(4):
            for k in range(2):
                for at in (0, 1, 3, 4, 5, 6, 7, 8, 10, 12):
                    deed = self.record[t][k]
                    for value in (deed[at] + 1, deed[at] - 1, deed[at] + 1000, 10**30, -1 if deed[at] != -1 else 0):
                        self.refuse(with_deed(self.record, t, k, changed(deed, at, value)))

    def test_one_break_or_reason_changed(self):
        for t in range(4):
            for k in range(2):
                deed = self.record[t][k]
                self.refuse(with_deed(self.record, t, k, changed(deed, 2, not deed[2])))
                for why in ("all", "quota", "budget", "most", "", "other"):
                    if why != deed[9]:
                        self.refuse(with_deed(self.record, t, k, changed(deed, 9, why)))

    def test_one_state_changed(self):
        for t in range(4):
            for k in range(2):
                states = self.record[t][k][11]
                for lane in (0, 1, 3, 20, 39):
                    for state in (-1, 0, 1, 2, 3):
                        if state != states[lane]:
                            wrong = changed(self.record[t][k], 11, changed(states, lane, state))
                            self.refuse(with_deed(self.record, t, k, wrong))

    def test_states_of_another_length(self):
        deed = self.record[1][0]
        for states in ((), deed[11][:39], deed[11] + (2,), deed[11][:3]):
            self.refuse(with_deed(self.record, 1, 0, changed(deed, 11, states)))

    def test_deeds_left_out_or_doubled(self):
        for t in range(4):
            for deeds in ([], self.record[t][:1], self.record[t][1:], self.record[t] * 2, self.record[t][::-1],
                          self.record[t] + self.record[t][:1]):
                self.refuse(changed(self.record, t, deeds))

    def test_moments_left_out_or_doubled(self):
        for t in range(4):
            self.refuse(self.record[:t] + self.record[t + 1:])
            self.refuse(self.record[:t + 1] + self.record[t:])
        self.refuse(self.record + [[]])
        self.refuse([[]] + self.record)
        self.refuse(self.record[::-1])

    def test_the_empty_record(self):
        self.assertIs(accepts_record(SETTING, [], []), True)
        self.refuse([])
        self.assertIs(accepts_record(SETTING, [], self.record), False)
        self.assertIs(accepts_record(SETTING, [], [[]]), False)

    def test_another_ledger_or_setting(self):
        self.assertFalse(accepts_record(SETTING, LEDGER[:3], self.record))
        self.assertFalse(accepts_record(SETTING, LEDGER + LEDGER[:1], self.record))
        self.assertFalse(accepts_record(SETTING, [[(6, 9, False), (1, 3, False)]] + LEDGER[1:], self.record))
        self.assertFalse(accepts_record(changed(SETTING, 0, 4), LEDGER, self.record))
        self.assertFalse(accepts_record(changed(SETTING, 2, ()), LEDGER, self.record))

    def test_given_numbers_that_exceed_the_quota_or_are_another_split(self):
        # Both services want 4 of a quota of 3. The first one gets 2, as it stands first.
        setting = house_of(service("a"), service("b"), quota=3)
        ledger = [[(1, 4, False), (1, 4, False)]]

        def deed(given):
            states = (0,) * given + (1,) * (40 - given)
            return (1, 4, False, 4, 4, 4, given, given, 4 - given, "all" if given == 4 else "quota", given, states,
                    25 * given)

        self.assertTrue(accepts_record(setting, ledger, [[deed(2), deed(1)]]))
        for split in ((1, 2), (3, 0), (0, 3), (2, 2), (3, 1), (1, 1), (2, 0), (4, 4), (4, 0)):
            self.assertIs(accepts_record(setting, ledger, [[deed(given) for given in split]]), False, split)

    def test_the_accepted_record_is_exactly_that_of_the_house(self):
        chance = random.Random(69)
        for _ in range(60):
            setting, ledger = random_house(chance)
            record = restart(setting, ledger).record()
            self.assertTrue(accepts_record(setting, ledger, record))
            if ledger:
                t, k = chance.randrange(len(ledger)), chance.randrange(len(setting[1]))
                at = chance.choice([0, 1, 3, 4, 5, 6, 7, 8, 10, 12])
                wrong = changed(record[t][k], at, record[t][k][at] + chance.choice([-1, 1, 7]))
                self.assertFalse(accepts_record(setting, ledger, with_deed(record, t, k, wrong)))

    def test_a_whole_record_that_fits_together_but_is_another_houses(self):
        chance = random.Random(690)
        for _ in range(40):
            setting, ledger = random_house(chance)
            other, _ = random_house(chance)
            if len(other[1]) == len(setting[1]):
                record = restart(other, ledger).record()
                expected = record == slow_record(setting, ledger)
                self.assertIs(accepts_record(setting, ledger, record), expected)

    def test_arguments_stay_as_they_are(self):
        told = (SETTING, copy.deepcopy(LEDGER), self.record)
        kept = copy.deepcopy(told)
        accepts_record(*told)
        self.assertEqual(told, kept)

    def test_500_moments_are_quick(self):
        chance = random.Random(691)
        setting = house_of(*[service(name, 2, 0, 20, 1, 40, 1000000, PLAIN) for name in NAMES])
        ledger = [[(chance.randint(1, 9), chance.randint(0, 20), False) for _ in NAMES] for _ in range(500)]
        record = restart(setting, ledger).record()
        start = time.perf_counter()
        self.assertTrue(accepts_record(setting, ledger, record))
        self.assertLess(time.perf_counter() - start, 5)


class Histories(unittest.TestCase):
    def test_example(self):
        record = restart(SETTING, LEDGER).record()
        self.assertEqual(history(record, 0), ([5, 1, 3, 9], [deeds[0][10] for deeds in record], [2]))
        self.assertEqual(history(record, 1), ([1, 2, 1, 4], [deeds[1][10] for deeds in record], [1]))
        self.assertEqual(history(record, 1)[1][0], 2)
        self.assertEqual(queue_moments(record, 0), [(9, 9, 8, 0), (0, 1, 1, 0), (5, 5, 5, 0), (0, 0, 0, 0)])

    def test_the_empty_record(self):
        self.assertEqual(history([], 0), ([], [], []))
        self.assertEqual(queue_moments([], 1), [])

    def test_many_breaks(self):
        ledger = [[(1, 0, t in (0, 1, 3, 5))] for t in range(6)]
        self.assertEqual(history(restart(house_of(service()), ledger).record(), 0), ([1] * 6, [0] * 6, [0, 1, 3, 5]))

    def test_they_are_those_of_the_pool_and_of_the_queue(self):
        chance = random.Random(70)
        for _ in range(60):
            setting, ledger = random_house(chance)
            record = restart(setting, ledger).record()
            for k, one in enumerate(setting[1]):
                rows = run_rows(one[7:], *history(record, k))
                self.assertEqual(rows, [deeds[k][11:] for deeds in record])
                queue = Queue(one[2], one[3])
                moments = [queue.step(deeds[k][1], deeds[k][6] * one[1]) for deeds in record]
                self.assertEqual(queue_moments(record, k), moments)

    def test_answers_are_new(self):
        record = restart(SETTING, LEDGER).record()
        kept = copy.deepcopy(record)
        for told in (*history(record, 0), queue_moments(record, 0)):
            told.append(7)
        self.assertEqual(record, kept)
        self.assertEqual(history(record, 0)[0], [5, 1, 3, 9])
        self.assertEqual(len(queue_moments(record, 0)), 4)


if __name__ == "__main__":
    unittest.main()
