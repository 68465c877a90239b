"""Points 5 to 9: jobs, queues and their moments, and papers for dropped jobs."""

import random
import unittest

from ebbkeep.errors import NotFound
from ebbkeep.queues import Queue, accepts_drop, is_full, make_drop, split_rows


class SlowQueue:
    """Every job on its own: a list of the moments in which the waiting jobs came."""

    def __init__(self, lag, patience):
        self.lag, self.patience, self.jobs, self.moment = lag, patience, [], 0

    def step(self, came, places):
        self.jobs += [self.moment] * came
        due = [at for at in self.jobs if at + self.lag <= self.moment <= at + self.patience]
        run = min(len(due), places)
        self.jobs = self.jobs[run:]
        dropped = self.jobs.count(self.moment - self.patience)
        self.jobs = self.jobs[dropped:]
        self.moment += 1
        return (came, len(due), run, dropped)

    def rows(self):
        return [(at, self.jobs.count(at)) for at in sorted(set(self.jobs))]


def through(lag, patience, steps):
    queue = Queue(lag, patience)
    return [queue.step(came, places) for came, places in steps]


def random_steps(chance, length, most=6):
    return [(chance.choice([0, chance.randint(0, most)]), chance.randint(0, most)) for _ in range(length)]


class Queues(unittest.TestCase):
    def test_new_queue(self):
        queue = Queue(1, 3)
        self.assertEqual((queue.rows(), queue.now(), queue.due(0), queue.due(7)), ([], 0, 0, 0))
        self.assertEqual(Queue(0, 3).due(7), 7)

    def test_oldest_jobs_run_first(self):
        queue = Queue(0, 5)
        self.assertEqual(queue.step(3, 1), (3, 3, 1, 0))
        self.assertEqual(queue.rows(), [(0, 2)])
        self.assertEqual(queue.step(4, 3), (4, 6, 3, 0))
        self.assertEqual(queue.rows(), [(1, 3)])
        self.assertEqual(queue.now(), 2)

    def test_first_and_last_moment_in_which_a_job_may_run(self):
        # lag 2, patience 4: jobs of the moment 0 may run in the moments 2, 3 and 4.
        for places, expected in [
            ([9, 0, 0, 0, 0, 0], [(0, 0, 0), (0, 0, 0), (5, 0, 0), (5, 0, 0), (5, 0, 5), (0, 0, 0)]),
            ([9, 9, 0, 0, 0, 0], [(0, 0, 0), (0, 0, 0), (5, 0, 0), (5, 0, 0), (5, 0, 5), (0, 0, 0)]),
            ([0, 0, 9, 0, 0, 0], [(0, 0, 0), (0, 0, 0), (5, 5, 0), (0, 0, 0), (0, 0, 0), (0, 0, 0)]),
            ([0, 0, 0, 0, 4, 9], [(0, 0, 0), (0, 0, 0), (5, 0, 0), (5, 0, 0), (5, 4, 1), (0, 0, 0)]),
        ]:
            steps = list(zip([5, 0, 0, 0, 0, 0], places))
            self.assertEqual([moment[1:] for moment in through(2, 4, steps)], expected)

    def test_rows_until_the_last_moment(self):
        queue = Queue(1, 2)
        seen = []
        for came in (5, 0, 0, 0):
            queue.step(came, 0)
            seen.append(queue.rows())
        self.assertEqual(seen, [[(0, 5)], [(0, 5)], [], []])

    def test_lag_and_patience_of_zero(self):
        queue = Queue(0, 0)
        self.assertEqual(queue.step(5, 3), (5, 5, 3, 2))
        self.assertEqual(queue.rows(), [])
        self.assertEqual(queue.step(0, 3), (0, 0, 0, 0))
        self.assertEqual(queue.step(2, 3), (2, 2, 2, 0))

    def test_no_places(self):
        self.assertEqual(through(0, 1, [(2, 0), (3, 0), (0, 0)]), [(2, 2, 0, 0), (3, 5, 0, 2), (0, 3, 0, 3)])

    def test_lag_equal_to_patience(self):
        self.assertEqual(through(2, 2, [(4, 9), (1, 9), (0, 3), (0, 3)]),
                         [(4, 0, 0, 0), (1, 0, 0, 0), (0, 4, 3, 1), (0, 1, 1, 0)])

    def test_many_places_and_many_jobs(self):
        self.assertEqual(through(0, 3, [(1000, 10**30)]), [(1000, 1000, 1000, 0)])

    def test_due_with_and_without_what_comes(self):
        queue = Queue(0, 2)
        queue.step(3, 1)
        self.assertEqual((queue.due(0), queue.due(4)), (2, 6))
        queue = Queue(1, 2)
        queue.step(3, 9)
        self.assertEqual((queue.due(0), queue.due(4)), (3, 3))

    def test_against_single_jobs(self):
        chance = random.Random(6)
        for _ in range(400):
            patience = chance.randint(0, 6)
            lag = chance.randint(0, patience)
            queue, slow = Queue(lag, patience), SlowQueue(lag, patience)
            for now, (came, places) in enumerate(random_steps(chance, 25)):
                self.assertEqual(queue.now(), now)
                due = queue.due(came)
                moment = queue.step(came, places)
                self.assertEqual(moment, slow.step(came, places))
                self.assertIs(type(moment), tuple)
                self.assertEqual(due, moment[1])
                self.assertEqual(queue.rows(), slow.rows())

    def test_asking_changes_nothing(self):
        queue = Queue(0, 3)
        queue.step(3, 1)
        for _ in range(3):
            self.assertEqual((queue.due(5), queue.now(), queue.rows()), (7, 1, [(0, 2)]))

    def test_rows_are_not_shared(self):
        queue = Queue(0, 3)
        queue.step(3, 1)
        rows = queue.rows()
        rows.append((9, 9))
        rows[0] = (5, 5)
        self.assertEqual(queue.rows(), [(0, 2)])
        kept = queue.rows()
        queue.step(4, 1)
        self.assertEqual(kept, [(0, 2)])

    def test_two_queues_are_apart(self):
        one, two = Queue(0, 3), Queue(0, 3)
        one.step(3, 1)
        self.assertEqual((two.rows(), two.now()), ([], 0))


class Splitting(unittest.TestCase):
    ROWS = [(2, 3), (4, 1), (5, 6)]

    def test_between_and_in_rows(self):
        self.assertEqual(split_rows(self.ROWS, 3), ([(2, 3)], [(4, 1), (5, 6)]))
        self.assertEqual(split_rows(self.ROWS, 5), ([(2, 3), (4, 1), (5, 1)], [(5, 5)]))
        self.assertEqual(split_rows(self.ROWS, 2), ([(2, 2)], [(2, 1), (4, 1), (5, 6)]))

    def test_nothing_and_everything(self):
        self.assertEqual(split_rows(self.ROWS, 0), ([], self.ROWS))
        self.assertEqual(split_rows(self.ROWS, 10), (self.ROWS, []))
        self.assertEqual(split_rows([], 0), ([], []))

    def test_a_row_without_jobs_is_left_out(self):
        self.assertEqual(split_rows([(2, 3), (7, 0)], 1), ([(2, 1)], [(2, 2)]))
        self.assertEqual(split_rows([(7, 0), (8, 2)], 2), ([(8, 2)], []))


class Full(unittest.TestCase):
    def test_run_less_than_due(self):
        self.assertIs(is_full((0, 5, 4, 0)), True)
        self.assertIs(is_full((0, 1, 0, 1)), True)
        self.assertIs(is_full((9, 5, 5, 9)), False)
        self.assertIs(is_full((9, 0, 0, 0)), False)
        self.assertIs(is_full((9, 4, 5, 0)), False)


class Papers(unittest.TestCase):
    # lag 1, patience 2: the jobs of the moments 0 and 1 may run in the moments 1 to 3, as 2 + 1 + 1 do.
    MOMENTS = [(3, 0, 0, 0), (2, 3, 2, 0), (0, 3, 1, 0), (0, 2, 1, 1), (0, 0, 0, 0)]

    def accepts(self, paper, moments=None, lag=1, patience=2):
        answer = accepts_drop(lag, patience, self.MOMENTS if moments is None else moments, paper)
        self.assertIs(type(answer), bool)
        return answer

    def test_moments_are_those_of_a_queue(self):
        self.assertEqual(through(1, 2, [(3, 0), (2, 2), (0, 1), (0, 1), (0, 5)]), self.MOMENTS)

    def test_plain_paper(self):
        self.assertTrue(self.accepts((0, 1)))

    def test_bounds_of_the_window(self):
        self.assertFalse(self.accepts((-1, 1)))
        self.assertFalse(self.accepts((1, 0)))
        self.assertFalse(self.accepts((2, 1)))
        self.assertFalse(self.accepts((10**20, 10**20)))
        self.assertFalse(self.accepts((-(10**20), -1)))

    def test_last_plus_patience_is_less_than_the_number_of_moments(self):
        self.assertTrue(self.accepts((0, 1), self.MOMENTS[:4]))
        self.assertFalse(self.accepts((0, 1), self.MOMENTS[:3]))
        self.assertFalse(self.accepts((0, 0), []))

    def test_more_must_have_come_than_run(self):
        self.assertFalse(self.accepts((0, 0)))  # 3 came, 2 + 1 ran
        self.assertFalse(self.accepts((1, 1)))  # 2 came, 1 + 1 ran
        moments = list(self.MOMENTS)
        moments[0] = (2, 0, 0, 0)
        self.assertFalse(self.accepts((0, 1), moments))  # 4 came, 4 ran
        moments[1] = (3, 3, 2, 0)
        self.assertTrue(self.accepts((0, 1), moments))

    def test_each_moment_of_the_window_must_be_full(self):
        for at in (1, 2, 3):
            moments = list(self.MOMENTS)
            came, _, run, dropped = moments[at]
            moments[at] = (came, run, run, dropped)
            self.assertFalse(self.accepts((0, 1), moments), at)

    def test_other_moments_need_not_be_full(self):
        moments = list(self.MOMENTS)
        moments[0] = (3, 9, 0, 0)
        moments[4] = (0, 9, 0, 0)
        self.assertTrue(self.accepts((0, 1), moments))

    def test_no_waiting(self):
        self.assertTrue(self.accepts((0, 0), [(5, 5, 4, 1)], 0, 0))
        self.assertFalse(self.accepts((0, 0), [(4, 5, 4, 1)], 0, 0))
        self.assertFalse(self.accepts((0, 0), [(5, 4, 4, 0)], 0, 0))

    def test_dropped_is_not_asked(self):
        self.assertTrue(self.accepts((0, 1), [moment[:3] + (0,) for moment in self.MOMENTS]))

    def test_moments_of_no_queue(self):
        self.assertTrue(self.accepts((0, 0), [(10**9, 2, 1, 0)], 0, 0))
        self.assertFalse(self.accepts((0, 0), [(10**9, 1, 2, 0)], 0, 0))

    def test_against_the_words_of_the_point(self):
        chance = random.Random(8)
        found = 0
        for _ in range(6000):
            patience = chance.randint(0, 3)
            lag = chance.randint(0, patience)
            moments = [tuple(chance.randint(0, most) for most in (4, 6, 2, 3)) for _ in range(chance.randint(0, 7))]
            paper = (chance.randint(-1, 5), chance.randint(-1, 5))
            expected = slow_accepts(lag, patience, moments, paper)
            found += expected
            self.assertIs(self.accepts(paper, moments, lag, patience), expected)
        self.assertGreater(found, 100)


def slow_accepts(lag, patience, moments, paper):
    first, last = paper
    if not 0 <= first <= last or not last + patience < len(moments):
        return False
    for t in range(first + lag, last + patience + 1):
        if not moments[t][2] < moments[t][1]:
            return False
    came = sum(moments[t][0] for t in range(first, last + 1))
    run = sum(moments[t][2] for t in range(first + lag, last + patience + 1))
    return came > run


class Making(unittest.TestCase):
    def test_example(self):
        self.assertEqual(make_drop(1, 2, Papers.MOMENTS, 3), (0, 1))

    def test_nothing_dropped_or_no_such_moment(self):
        for u in (0, 1, 2, 4, 5, -1, -2, 10**20, -(10**20)):
            with self.assertRaises(NotFound):
                make_drop(1, 2, Papers.MOMENTS, u)
        with self.assertRaises(NotFound):
            make_drop(0, 0, [], 0)

    def test_dropped_in_the_last_moment(self):
        self.assertEqual(make_drop(0, 0, [(0, 0, 0, 0), (5, 5, 4, 1)], 1), (1, 1))
        with self.assertRaises(NotFound):
            make_drop(0, 0, [(0, 0, 0, 0), (5, 5, 4, 1)], -1)

    def test_greatest_first_for_each_drop(self):
        chance = random.Random(9)
        papers = 0
        wide = 0
        for _ in range(500):
            patience = chance.randint(0, 5)
            lag = chance.randint(0, patience)
            moments = through(lag, patience, random_steps(chance, 30, chance.choice([2, 5, 9])))
            for u, moment in enumerate(moments):
                if moment[3] == 0:
                    with self.assertRaises(NotFound):
                        make_drop(lag, patience, moments, u)
                    continue
                last = u - patience
                firsts = [first for first in range(last + 1) if slow_accepts(lag, patience, moments, (first, last))]
                self.assertEqual(make_drop(lag, patience, moments, u), (max(firsts), last))
                papers += 1
                wide += max(firsts) < last
        self.assertGreater(papers, 500)
        self.assertGreater(wide, 100)

    def test_long_overload_is_quick(self):
        moments = through(2, 20, [(1000, 5)] * 500)
        papers = [make_drop(2, 20, moments, u) for u, moment in enumerate(moments) if moment[3] > 0]
        self.assertEqual(len(papers), 480)
        self.assertTrue(accepts_drop(2, 20, moments, papers[-1]))

    def test_arguments_stay_as_they_are(self):
        moments = list(Papers.MOMENTS)
        make_drop(1, 2, moments, 3)
        with self.assertRaises(NotFound):
            make_drop(1, 2, moments, 2)
        accepts_drop(1, 2, moments, (0, 1))
        self.assertEqual(moments, Papers.MOMENTS)


if __name__ == "__main__":
    unittest.main()
