"""Point 19: waits."""

import random
import unittest

from ebbkeep.queues import Queue
from ebbkeep.waits import waits


def through(lag, patience, steps):
    queue = Queue(lag, patience)
    return [queue.step(came, places) for came, places in steps]


def slow_waits(moments):
    """Every job on its own."""
    jobs, found = [], {}
    for now, (came, _, run, dropped) in enumerate(moments):
        jobs += [now] * came
        for at in jobs[:run]:
            found[now - at] = found.get(now - at, 0) + 1
        jobs = jobs[run + dropped:]
    return sorted(found.items())


class Waits(unittest.TestCase):
    def test_no_moments_and_no_jobs(self):
        self.assertEqual(waits(0, 3, []), [])
        self.assertEqual(waits(0, 3, [(0, 0, 0, 0)] * 5), [])
        self.assertEqual(waits(0, 0, [(4, 4, 0, 4)]), [])

    def test_waits_of_zero(self):
        self.assertEqual(waits(0, 3, through(0, 3, [(2, 9), (3, 9)])), [(0, 5)])
        self.assertEqual(waits(0, 0, through(0, 0, [(2, 1), (3, 9)])), [(0, 4)])

    def test_waits_of_the_lag_and_of_the_patience(self):
        self.assertEqual(waits(2, 4, through(2, 4, [(3, 9), (0, 9), (0, 1), (0, 0), (0, 9)])), [(2, 1), (4, 2)])
        self.assertEqual(waits(3, 3, through(3, 3, [(3, 9), (1, 9), (0, 9), (0, 2), (0, 9)])), [(3, 3)])

    def test_oldest_jobs_run_first(self):
        # 2 of the moment 0 run at once; the third one and 1 of the moment 1 run in the moment 1; the others later.
        self.assertEqual(waits(0, 5, through(0, 5, [(3, 2), (4, 2), (0, 9)])), [(0, 3), (1, 4)])

    def test_dropped_jobs_do_not_wait(self):
        moments = through(0, 1, [(5, 1), (2, 1), (0, 9)])
        self.assertEqual(moments, [(5, 5, 1, 0), (2, 6, 1, 3), (0, 2, 2, 0)])
        self.assertEqual(waits(0, 1, moments), [(0, 1), (1, 3)])

    def test_jobs_that_still_wait_are_not_told(self):
        self.assertEqual(waits(0, 9, through(0, 9, [(5, 1), (5, 1)])), [(0, 1), (1, 1)])

    def test_against_single_jobs(self):
        chance = random.Random(22)
        for _ in range(400):
            patience = chance.randint(0, 6)
            lag = chance.randint(0, patience)
            steps = [(chance.choice([0, chance.randint(0, 6)]), chance.randint(0, 6)) for _ in range(25)]
            moments = through(lag, patience, steps)
            found = waits(lag, patience, moments)
            self.assertEqual(found, slow_waits(moments))
            self.assertIs(type(found), list)
            self.assertEqual(sum(count for _, count in found), sum(moment[2] for moment in moments))
            for wait, count in found:
                self.assertTrue(lag <= wait <= patience and count >= 1)

    def test_long_rows(self):
        moments = through(3, 20, [(1000, 400)] * 500)
        self.assertEqual(waits(3, 20, moments), slow_waits(moments))

    def test_moments_stay_as_they_are_and_nothing_is_shared(self):
        moments = through(0, 5, [(3, 2), (4, 2)])
        kept = list(moments)
        waits(0, 5, moments).append((9, 9))
        self.assertEqual(moments, kept)
        self.assertEqual(waits(0, 5, moments), [(0, 3), (1, 1)])


if __name__ == "__main__":
    unittest.main()
