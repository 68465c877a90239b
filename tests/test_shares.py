"""Points 13 and 14: shares, and which shares are accepted."""

import fractions
import itertools
import random
import unittest

from ebbkeep.shares import accepts_shares, shares


def slow_shares(quota, wants, weights):
    given = [0] * len(wants)
    while sum(given) < quota and given != wants:
        hungry = [k for k in range(len(wants)) if given[k] < wants[k]]
        k = min(hungry, key=lambda k: (fractions.Fraction(given[k], weights[k]), k))
        given[k] += 1
    return given


def random_case(chance, most, most_want):
    many = chance.randint(0, most)
    wants = [chance.randint(0, most_want) for _ in range(many)]
    weights = [chance.randint(1, 9) for _ in range(many)]
    return chance.randint(0, sum(wants) + 2), wants, weights


class Shares(unittest.TestCase):
    def test_example(self):
        self.assertEqual(shares(2, [2, 2], [2, 1]), [1, 1])

    def test_no_services(self):
        self.assertEqual(shares(0, [], []), [])
        self.assertEqual(shares(5, [], []), [])

    def test_quota_of_zero(self):
        self.assertEqual(shares(0, [3, 4], [1, 9]), [0, 0])

    def test_quota_around_the_sum_of_the_wants(self):
        self.assertEqual(shares(6, [3, 4], [1, 9]), [2, 4])
        self.assertEqual(shares(7, [3, 4], [1, 9]), [3, 4])
        self.assertEqual(shares(8, [3, 4], [1, 9]), [3, 4])
        self.assertEqual(shares(500, [40] * 8, [1] * 8), [40] * 8)

    def test_nobody_wants(self):
        self.assertEqual(shares(9, [0, 0], [1, 2]), [0, 0])

    def test_equal_fractions_go_to_the_first(self):
        self.assertEqual(shares(1, [1, 1, 1], [1, 9, 1]), [1, 0, 0])
        self.assertEqual(shares(4, [9, 9, 9], [1, 1, 1]), [2, 1, 1])
        self.assertEqual(shares(5, [9, 9], [2, 4]), [2, 3])
        self.assertEqual(shares(4, [9, 9], [2, 4]), [2, 2])

    def test_weights(self):
        self.assertEqual(shares(12, [40, 40, 40], [1, 2, 3]), [2, 4, 6])
        self.assertEqual(shares(10, [40, 1, 40], [1, 9, 2]), [3, 1, 6])

    def test_fractions_are_not_rounded(self):
        # 4 of 9 is less than 4 of 8, and 5 of 9 is more.
        self.assertEqual(shares(9, [40, 40], [8, 9]), [4, 5])
        self.assertEqual(shares(10, [40, 40], [8, 9]), [5, 5])

    def test_against_fractions(self):
        chance = random.Random(13)
        for _ in range(400):
            case = random_case(chance, 8, 12)
            self.assertEqual(shares(*case), slow_shares(*case))

    def test_arguments_stay_as_they_are_and_nothing_is_shared(self):
        wants, weights = [2, 2], [2, 1]
        given = shares(9, wants, weights)
        given.append(5)
        given[0] = 7
        self.assertEqual((wants, weights), ([2, 2], [2, 1]))
        self.assertEqual(shares(9, wants, weights), [2, 2])


class Accepting(unittest.TestCase):
    def accepts(self, quota, wants, weights, given):
        answer = accepts_shares(quota, wants, weights, given)
        self.assertIs(type(answer), bool)
        return answer

    def test_example(self):
        self.assertTrue(self.accepts(2, [2, 2], [2, 1], [1, 1]))
        self.assertFalse(self.accepts(2, [2, 2], [2, 1], [2, 0]))
        self.assertFalse(self.accepts(2, [2, 2], [2, 1], [0, 2]))

    def test_no_services(self):
        self.assertTrue(self.accepts(0, [], [], []))
        self.assertTrue(self.accepts(5, [], [], []))
        self.assertFalse(self.accepts(5, [], [], [0]))

    def test_other_lengths(self):
        self.assertFalse(self.accepts(2, [2, 2], [2, 1], [1]))
        self.assertFalse(self.accepts(2, [2, 2], [2, 1], [1, 1, 0]))
        self.assertFalse(self.accepts(2, [2, 2], [2, 1], []))
        self.assertFalse(self.accepts(0, [2, 2], [2, 1], []))
        self.assertFalse(self.accepts(2, [2, 0], [2, 1], [2]))

    def test_less_than_zero_and_more_than_wanted(self):
        self.assertFalse(self.accepts(2, [2, 2], [1, 1], [3, -1]))
        self.assertFalse(self.accepts(2, [1, 2], [1, 1], [2, 0]))
        self.assertFalse(self.accepts(3, [1, 2], [1, 1], [2, 1]))
        self.assertFalse(self.accepts(4, [1, 2], [1, 1], [2, 2]))

    def test_sum(self):
        self.assertFalse(self.accepts(3, [2, 2], [1, 1], [1, 1]))
        self.assertFalse(self.accepts(3, [2, 2], [1, 1], [2, 2]))
        self.assertTrue(self.accepts(3, [2, 2], [1, 1], [2, 1]))
        self.assertTrue(self.accepts(4, [2, 2], [1, 1], [2, 2]))
        self.assertTrue(self.accepts(9, [2, 2], [1, 1], [2, 2]))
        self.assertFalse(self.accepts(9, [2, 2], [1, 1], [2, 1]))
        self.assertTrue(self.accepts(0, [2, 2], [1, 1], [0, 0]))
        self.assertFalse(self.accepts(0, [2, 2], [1, 1], [1, 0]))

    def test_equal_fractions(self):
        self.assertTrue(self.accepts(1, [1, 1], [1, 1], [1, 0]))
        self.assertFalse(self.accepts(1, [1, 1], [1, 1], [0, 1]))
        self.assertTrue(self.accepts(1, [1, 1], [3, 9], [1, 0]))

    def test_one_machine_moved(self):
        chance = random.Random(14)
        for _ in range(300):
            quota, wants, weights = random_case(chance, 8, 12)
            right = slow_shares(quota, wants, weights)
            self.assertTrue(self.accepts(quota, wants, weights, right))
            for a, b in itertools.permutations(range(len(wants)), 2):
                given = list(right)
                given[a] += 1
                given[b] -= 1
                self.assertFalse(self.accepts(quota, wants, weights, given))

    def test_exactly_the_shares(self):
        chance = random.Random(15)
        for _ in range(300):
            quota, wants, weights = random_case(chance, 4, 4)
            right = slow_shares(quota, wants, weights)
            for given in itertools.product(range(-1, 6), repeat=len(wants)):
                self.assertIs(self.accepts(quota, wants, weights, list(given)), list(given) == right)

    def test_arguments_stay_as_they_are(self):
        wants, weights, given = [2, 2], [2, 1], [1, 1]
        accepts_shares(2, wants, weights, given)
        self.assertEqual((wants, weights, given), ([2, 2], [2, 1], [1, 1]))


if __name__ == "__main__":
    unittest.main()
