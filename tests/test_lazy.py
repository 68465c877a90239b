"""Point 21: waiting as long as possible."""

import functools
import random
import time
import unittest

from ebbkeep.lazy import lazy_runs, lazy_total


def slow_runs(room, lag, patience, counts):
    """Every job on its own."""
    jobs, runs = [], []
    for now in range(len(counts) + patience):
        jobs += [now] * (counts[now] if now < len(counts) else 0)
        due = [at for at in jobs if at + lag <= now]
        forced = [at for at in jobs if at + patience == now]
        machines = -(-len(forced) // room)
        run = min(len(due), machines * room)
        assert len(forced) <= run
        jobs = jobs[run:]
        runs.append((machines, run))
    assert jobs == []
    return runs


def fewest_machines(room, lag, patience, counts):
    """Try every number of machines in every moment; any job that may run can take any place."""
    @functools.lru_cache(maxsize=None)
    def best(now, jobs):
        if now == len(counts) + patience:
            return 0
        here = jobs + (now,) * (counts[now] if now < len(counts) else 0)
        due = sum(at + lag <= now for at in here)
        found = []
        for machines in range(-(-due // room) + 1):
            # Of the jobs that may run, those that came first are the most pressing ones.
            left = here[min(due, machines * room):]
            if all(at + patience > now for at in left):
                found.append(machines + best(now + 1, left))
        return min(found, default=10**9)

    return best(0, ())


def random_case(chance, longest, most):
    patience = chance.randint(0, 4)
    counts = [chance.choice([0, chance.randint(0, most)]) for _ in range(chance.randint(0, longest))]
    return chance.randint(1, 4), chance.randint(0, patience), patience, counts


class Lazy(unittest.TestCase):
    def test_one_moment(self):
        self.assertEqual(lazy_runs(4, 0, 2, [5]), [(0, 0), (0, 0), (2, 5)])
        self.assertEqual(lazy_runs(4, 0, 0, [5]), [(2, 5)])
        self.assertEqual(lazy_runs(4, 1, 1, [5]), [(0, 0), (2, 5)])

    def test_a_free_place_on_a_machine(self):
        # In the moment 1 one job is forced, and the other three places take jobs that may wait.
        self.assertEqual(lazy_runs(4, 0, 1, [1, 5]), [(0, 0), (1, 4), (1, 2)])
        self.assertEqual(lazy_runs(4, 0, 1, [1, 2]), [(0, 0), (1, 3), (0, 0)])
        self.assertEqual(lazy_runs(4, 1, 1, [1, 5]), [(0, 0), (1, 1), (2, 5)])
        self.assertEqual(lazy_runs(4, 1, 2, [1, 5]), [(0, 0), (0, 0), (1, 4), (1, 2)])

    def test_free_places_take_the_oldest_jobs(self):
        self.assertEqual(lazy_runs(3, 0, 2, [1, 1, 3]), [(0, 0), (0, 0), (1, 3), (0, 0), (1, 2)])

    def test_full_machines_take_no_more(self):
        self.assertEqual(lazy_runs(4, 0, 1, [8, 5]), [(0, 0), (2, 8), (2, 5)])

    def test_no_jobs(self):
        self.assertEqual(lazy_runs(4, 0, 0, []), [])
        self.assertEqual(lazy_runs(4, 1, 3, []), [(0, 0)] * 3)
        self.assertEqual(lazy_runs(4, 1, 3, [0, 0]), [(0, 0)] * 5)

    def test_jobs_in_the_last_moment_only(self):
        self.assertEqual(lazy_runs(2, 0, 1, [0, 0, 3]), [(0, 0), (0, 0), (0, 0), (2, 3)])

    def test_total(self):
        self.assertEqual(lazy_total([]), 0)
        self.assertEqual(lazy_total([(2, 9), (0, 0), (3, 1)]), 5)

    def test_against_single_jobs(self):
        chance = random.Random(23)
        for _ in range(400):
            case = random_case(chance, 12, 9)
            runs = lazy_runs(*case)
            self.assertEqual(runs, slow_runs(*case))
            self.assertEqual(len(runs), len(case[3]) + case[2])
            self.assertEqual(sum(run for _, run in runs), sum(case[3]))

    def test_no_way_uses_fewer_machines(self):
        chance = random.Random(24)
        for _ in range(300):
            case = random_case(chance, 6, 5)
            self.assertEqual(lazy_total(lazy_runs(*case)), fewest_machines(*case), case)

    def test_long_rows_are_quick(self):
        start = time.perf_counter()
        for lag, patience in ((0, 20), (20, 20), (5, 12)):
            runs = lazy_runs(7, lag, patience, [1000] * 500)
            self.assertEqual(sum(run for _, run in runs), 500000)
        self.assertLess(time.perf_counter() - start, 10)

    def test_arguments_stay_as_they_are_and_nothing_is_shared(self):
        counts = [1, 5]
        runs = lazy_runs(4, 0, 1, counts)
        kept = list(runs)
        lazy_total(runs)
        self.assertEqual((counts, runs), ([1, 5], kept))
        runs.append((9, 9))
        self.assertEqual(lazy_runs(4, 0, 1, counts), kept)


if __name__ == "__main__":
    unittest.main()
