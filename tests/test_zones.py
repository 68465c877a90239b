"""Point 22: spreading machines over zones."""

import itertools
import random
import unittest

from ebbkeep.zones import spread, started


def fewest_started(before, machines):
    """Try all lists in which no zone has two more than another one."""
    low = machines // len(before)
    found = []
    for more in itertools.product([0, 1], repeat=len(before)):
        after = [low + extra for extra in more]
        if sum(after) == machines:
            found.append(sum(max(0, new - old) for old, new in zip(before, after)))
    return min(found)


class Spread(unittest.TestCase):
    def test_no_remainder(self):
        self.assertEqual(spread([5, 0, 1], 6), [2, 2, 2])

    def test_the_remainder_goes_to_those_that_had_the_most(self):
        self.assertEqual(spread([1, 3, 2], 7), [2, 3, 2])
        self.assertEqual(spread([1, 3, 2], 8), [2, 3, 3])
        self.assertEqual(spread([4, 0, 0, 9], 6), [2, 1, 1, 2])

    def test_of_several_that_had_as_many_the_first_ones(self):
        self.assertEqual(spread([2, 2, 2], 4), [2, 1, 1])
        self.assertEqual(spread([2, 2, 2], 5), [2, 2, 1])
        self.assertEqual(spread([1, 2, 2, 2], 6), [1, 2, 2, 1])
        self.assertEqual(spread([0, 0], 1), [1, 0])

    def test_one_zone(self):
        for machines in (0, 1, 7):
            self.assertEqual(spread([3], machines), [machines])

    def test_twelve_zones(self):
        before = [0, 5, 1, 4, 2, 3, 3, 2, 4, 1, 5, 0]
        self.assertEqual(spread(before, 29), [2, 3, 2, 3, 2, 3, 2, 2, 3, 2, 3, 2])
        self.assertEqual(spread(before, 12), [1] * 12)
        self.assertEqual(spread(before, 11), [1] * 11 + [0])

    def test_fewer_machines_than_zones(self):
        self.assertEqual(spread([0, 7, 3], 2), [0, 1, 1])
        self.assertEqual(spread([0, 7, 3], 1), [0, 1, 0])

    def test_no_machines(self):
        self.assertEqual(spread([4, 0, 2], 0), [0, 0, 0])
        self.assertEqual(spread([0, 0], 0), [0, 0])

    def test_large_numbers(self):
        self.assertEqual(spread([10**30, 0], 10**40 + 1), [5 * 10**39 + 1, 5 * 10**39])

    def test_as_few_are_started_as_any_spread_allows(self):
        chance = random.Random(22)
        for _ in range(300):
            before = [chance.randint(0, 6) for _ in range(chance.randint(1, 7))]
            machines = chance.randint(0, 40)
            after = spread(before, machines)
            self.assertEqual(sum(after), machines)
            self.assertLessEqual(max(after) - min(after), 1)
            self.assertEqual(started(before, after), fewest_started(before, machines))


class Started(unittest.TestCase):
    def test_only_zones_that_have_more_start_some(self):
        self.assertEqual(started([1, 3, 2], [2, 3, 2]), 1)
        self.assertEqual(started([5, 0, 1], [2, 2, 2]), 3)
        self.assertEqual(started([4, 4], [0, 0]), 0)
        self.assertEqual(started([0], [9]), 9)
        self.assertEqual(started([2, 2], [2, 2]), 0)


class NothingIsShared(unittest.TestCase):
    def test_arguments_stay_as_they_are(self):
        before, after = [1, 3, 2], [2, 3, 2]
        self.assertEqual(spread(before, 7), after)
        started(before, after)
        self.assertEqual((before, after), ([1, 3, 2], [2, 3, 2]))

    def test_each_answer_is_a_new_list(self):
        before = [2]
        first = spread(before, 2)
        self.assertIsNot(first, before)
        first.append(9)
        self.assertEqual(spread(before, 2), [2])


if __name__ == "__main__":
    unittest.main()
