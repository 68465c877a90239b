"""Points 17, 18 and 20: least machines, windows and drops."""

import fractions
import math
import random
import time
import unittest

from ebbkeep.windows import drops, least_machines, window_need


def slow_drops(room, lag, patience, counts, machines):
    """Every job on its own: each place takes the oldest job that may run."""
    jobs = [t for t, count in enumerate(counts) for _ in range(count)]
    for now in range(len(counts) + patience + 3):
        for _ in range(room * machines):
            for at in jobs:
                if at + lag <= now <= at + patience:
                    jobs.remove(at)
                    break
            else:
                break
    return len(jobs)


def slow_need(room, lag, patience, counts, window):
    first, last = window
    jobs = sum(counts[t] for t in range(first, last + 1))
    moments = len(range(first + lag, last + patience + 1))
    return math.ceil(fractions.Fraction(jobs, room * moments))


def random_case(chance, longest=8, most=9):
    patience = chance.randint(0, 4)
    counts = [chance.choice([0, chance.randint(0, most)]) for _ in range(chance.randint(0, longest))]
    return chance.randint(1, 4), chance.randint(0, patience), patience, counts


class Needs(unittest.TestCase):
    def test_plain_windows(self):
        self.assertEqual(window_need(4, 0, 3, [9, 0, 8], (0, 0)), 1)   # 9 jobs, 16 places of one machine
        self.assertEqual(window_need(2, 0, 1, [9, 0, 8], (0, 0)), 3)   # 9 jobs, 4 places
        self.assertEqual(window_need(2, 0, 1, [9, 0, 8], (0, 2)), 3)   # 17 jobs, 8 places
        self.assertEqual(window_need(2, 0, 1, [9, 0, 8], (1, 1)), 0)
        self.assertEqual(window_need(2, 0, 1, [9, 0, 8], (2, 2)), 2)

    def test_rounded_up(self):
        self.assertEqual([window_need(2, 0, 1, [jobs], (0, 0)) for jobs in (0, 1, 4, 5, 8, 9)], [0, 1, 1, 2, 2, 3])

    def test_lag_equal_to_patience(self):
        self.assertEqual(window_need(5, 3, 3, [11, 4], (0, 0)), 3)
        self.assertEqual(window_need(5, 3, 3, [11, 4], (0, 1)), 2)

    def test_against_fractions(self):
        chance = random.Random(18)
        for _ in range(300):
            room, lag, patience, counts = random_case(chance)
            for last in range(len(counts)):
                for first in range(last + 1):
                    window = (first, last)
                    self.assertEqual(window_need(room, lag, patience, counts, window),
                                     slow_need(room, lag, patience, counts, window))


class Least(unittest.TestCase):
    def test_no_jobs(self):
        for counts in ([], [0], [0, 0, 0]):
            self.assertEqual(least_machines(3, 1, 4, counts), (0, None))

    def test_one_moment(self):
        self.assertEqual(least_machines(3, 0, 0, [10]), (4, (0, 0)))
        self.assertEqual(least_machines(3, 0, 1, [10]), (2, (0, 0)))
        self.assertEqual(least_machines(3, 1, 1, [10]), (4, (0, 0)))
        self.assertEqual(least_machines(3, 0, 20, [1]), (1, (0, 0)))

    def test_jobs_in_the_last_moment_only(self):
        # All windows that end there have the jobs, but the short one has the fewest places.
        self.assertEqual(least_machines(2, 0, 1, [0, 0, 9]), (3, (2, 2)))
        self.assertEqual(least_machines(9, 0, 1, [0, 0, 9]), (1, (0, 2)))

    def test_several_windows_that_need_as_many(self):
        self.assertEqual(least_machines(1, 0, 0, [3, 3, 3]), (3, (0, 0)))
        self.assertEqual(least_machines(1, 0, 0, [2, 3, 3]), (3, (0, 1)))
        self.assertEqual(least_machines(1, 0, 1, [2, 4, 0, 4]), (2, (0, 1)))
        self.assertEqual(least_machines(1, 0, 1, [0, 4, 0, 4]), (2, (0, 1)))
        self.assertEqual(least_machines(1, 0, 1, [1, 0, 1, 3, 3]), (2, (0, 4)))
        self.assertEqual(least_machines(1, 0, 1, [0, 0, 0, 3, 3]), (2, (1, 4)))

    def test_against_slow_drops_and_all_windows(self):
        chance = random.Random(19)
        for _ in range(300):
            room, lag, patience, counts = random_case(chance)
            machines, window = least_machines(room, lag, patience, counts)
            self.assertEqual(slow_drops(room, lag, patience, counts, machines), 0)
            if machines > 0:
                self.assertGreater(slow_drops(room, lag, patience, counts, machines - 1), 0)
            needs = {(first, last): slow_need(room, lag, patience, counts, (first, last))
                     for last in range(len(counts)) for first in range(last + 1)}
            self.assertEqual(machines, max(needs.values(), default=0))
            best = sorted(pair for pair in needs if needs[pair] == machines)
            self.assertEqual(window, best[0] if machines > 0 else None)

    def test_long_rows_are_quick(self):
        chance = random.Random(20)
        start = time.perf_counter()
        for counts in ([1000] * 500, [0] * 499 + [1000], [chance.randint(0, 1000) for _ in range(500)]):
            machines, window = least_machines(1, 2, 20, counts)
            self.assertEqual(window_need(1, 2, 20, counts, window), machines)
            self.assertEqual(drops(1, 2, 20, counts, machines), 0)
            self.assertGreater(drops(1, 2, 20, counts, machines - 1), 0)
        self.assertLess(time.perf_counter() - start, 10)


class Drops(unittest.TestCase):
    def test_no_machines(self):
        self.assertEqual(drops(4, 0, 2, [3, 0, 5], 0), 8)
        self.assertEqual(drops(4, 2, 2, [3, 0, 5], 0), 8)
        self.assertEqual(drops(4, 0, 0, [3, 0, 5], 0), 8)

    def test_no_counts(self):
        self.assertEqual(drops(4, 0, 2, [], 0), 0)
        self.assertEqual(drops(4, 0, 2, [], 5), 0)

    def test_moments_behind_the_row(self):
        self.assertEqual(drops(1, 0, 2, [5], 1), 2)    # runs in the moments 0, 1 and 2
        self.assertEqual(drops(1, 2, 2, [5], 1), 4)    # runs in the moment 2 alone
        self.assertEqual(drops(1, 1, 3, [5], 1), 2)
        self.assertEqual(drops(2, 0, 1, [0, 7], 1), 3)

    def test_the_least_machines_and_one_less(self):
        self.assertEqual(drops(2, 0, 1, [9, 0, 8], 3), 0)
        self.assertEqual(drops(2, 0, 1, [9, 0, 8], 4), 0)
        self.assertEqual(drops(2, 0, 1, [9, 0, 8], 2), 1)

    def test_against_single_jobs(self):
        chance = random.Random(21)
        for _ in range(300):
            room, lag, patience, counts = random_case(chance)
            found = [drops(room, lag, patience, counts, machines) for machines in range(8)]
            self.assertEqual(found, [slow_drops(room, lag, patience, counts, machines) for machines in range(8)])
            self.assertEqual(found, sorted(found, reverse=True))

    def test_arguments_stay_as_they_are(self):
        counts = [9, 0, 8]
        drops(2, 0, 1, counts, 2)
        least_machines(2, 0, 1, counts)
        window_need(2, 0, 1, counts, (0, 2))
        self.assertEqual(counts, [9, 0, 8])


if __name__ == "__main__":
    unittest.main()
