"""Point 75: reports."""

import copy
import random
import unittest

from cases import PLAIN
from ebbkeep.house import House, restart
from ebbkeep.reports import report
from houses import house_of, random_house, service

SETTING = house_of(service("a", 2, 0, 2, 1, 1, 5000, PLAIN), service("b", 1, 1, 3, tariff=PLAIN))
LEDGER = [[(1, came, t == 1), (2, came // 2, False)] for t, came in enumerate((5, 4, 4, 4))]


def slow_waits(one, record, k):
    """Return how long each job waited, job by job."""
    waiting, found = [], {}
    for t, deeds in enumerate(record):
        waiting += [t] * deeds[k][1]
        for _ in range(deeds[k][7]):
            wait = t - waiting.pop(0)
            found[wait] = found.get(wait, 0) + 1
        waiting = [at for at in waiting if at + one[3] > t]
    return sorted(found.items()), len(waiting)


class Report(unittest.TestCase):
    def test_the_empty_record(self):
        for k in (0, 1):
            self.assertEqual(report(SETTING, [], k), (0, 0, 0, 0, 0, 0, []))

    def test_a_last_moment_that_leaves_jobs_waiting(self):
        record = restart(SETTING, LEDGER).record()
        # Two of the jobs run in each moment; one of those that came in the moment 1 is dropped behind the moment 3.
        waits = [(0, 2), (1, 3), (2, 3)]
        self.assertEqual([deeds[0][7:9] for deeds in record], [(2, 0), (2, 0), (2, 0), (2, 1)])
        self.assertEqual(report(SETTING, record, 0), (17, 8, 1, 8, 60 + 36, 4, waits))

    def test_a_lag(self):
        record = restart(SETTING, LEDGER).record()
        # What came in the last moment waits; the others ran one moment after they came.
        self.assertEqual(report(SETTING, record, 1), (8, 6, 0, 2, 2 * 30 + 6 * 18, 6, [(1, 6)]))

    def test_hot_lanes_that_are_idle_or_kept_count(self):
        setting = house_of(service(), keeps=[("web", 3, 0, 1, 9)])
        record = restart(setting, [[(1, 1, False)], [(3, 1, False)], [(1, 0, False)], [(1, 0, False)]]).record()
        self.assertEqual([deeds[0][11].count(0) for deeds in record], [3, 3, 3, 1])
        self.assertEqual(report(setting, record, 0)[4:], (75 + 45 + 15 + 5, 10, [(0, 2)]))

    def test_only_the_deeds_of_the_service_count(self):
        record = restart(SETTING, [[(1, 3, False), (1, 0, False)]] * 3).record()
        self.assertEqual(report(SETTING, record, 1), (0, 0, 0, 0, 0, 0, []))

    def test_drawn_houses(self):
        chance = random.Random(75)
        left = 0
        for _ in range(150):
            setting, ledger = random_house(chance)
            house = House(setting)
            for entry in ledger:
                house.moment(entry)
            record = house.record()
            for k, one in enumerate(setting[1]):
                came, run, dropped, waiting, spent, hot, waits = report(setting, record, k)
                self.assertEqual(came, sum(entry[k][1] for entry in ledger))
                self.assertEqual((run, dropped), tuple(sum(deeds[k][at] for deeds in record) for at in (7, 8)))
                self.assertEqual(waiting, sum(count for _, count in house.queue_rows(k)))
                self.assertEqual(came, run + dropped + waiting)
                self.assertEqual(spent, house.pool_parts(k)[1])
                self.assertEqual(hot, sum(state == 0 for deeds in record for state in deeds[k][11]))
                self.assertEqual((waits, waiting), slow_waits(one, record, k))
                left += waiting > 0
        self.assertGreater(left, 20)

    def test_arguments_and_answers(self):
        record = restart(SETTING, LEDGER).record()
        kept = copy.deepcopy(record)
        told = report(SETTING, record, 0)
        told[6].append(7)
        self.assertEqual(record, kept)
        self.assertEqual(report(SETTING, record, 0)[6], [(0, 2), (1, 3), (2, 3)])


if __name__ == "__main__":
    unittest.main()
