"""Points 50 to 52: pooling, the parts of the cost, and papers for the parts."""

import copy
import random
import time
import unittest

from cases import FOUR_RATES, ONE_RATE, PLAIN, random_breaks, random_needs, random_tariff, slow_least, small_tariff
from ebbkeep.papers import is_sound, make
from ebbkeep.plans import cheapest, cheapest_cost, plan_cost
from ebbkeep.pooling import accepts_parts, parts_of_cost, parts_paper, pooled


def random_pool(chance, longest, most):
    """Return (tariff, prices, rows, breaks)."""
    length = chance.randint(0, longest)
    tariff = chance.choice([small_tariff, random_tariff])(chance)
    dearest = chance.choice([1, 3, 20, 100])
    prices = [chance.randint(1, dearest) for _ in range(length)]
    rows = [random_needs(chance, length, most) for _ in range(chance.randint(1, 5))]
    return (tariff, prices, rows, random_breaks(chance, length))


class Pooled(unittest.TestCase):
    def test_sums(self):
        self.assertEqual(pooled([[1, 0, 2], [0, 0, 3]]), [1, 0, 5])
        self.assertEqual(pooled([[1], [2], [3], [4], [30]]), [40])

    def test_one_service(self):
        row = [1, 0, 2]
        self.assertEqual(pooled([row]), row)
        self.assertIsNot(pooled([row]), row)

    def test_no_moments(self):
        self.assertEqual(pooled([[]]), [])
        self.assertEqual(pooled([[], [], []]), [])

    def test_costs_of_the_pool(self):
        chance = random.Random(50)
        for _ in range(200):
            tariff, prices, rows, breaks = random_pool(chance, 12, 8)
            cost = cheapest_cost(tariff, prices, pooled(rows), breaks)
            own = [cheapest_cost(tariff, prices, row, breaks) for row in rows]
            self.assertLessEqual(max(own), cost)
            self.assertLessEqual(cost, sum(own))


class Parts(unittest.TestCase):
    def test_one_service(self):
        self.assertEqual(parts_of_cost(ONE_RATE, [1, 1], [[2, 1]], []), [55])

    def test_services_that_take_turns(self):
        # Alone each pays 25; the second one finds the machine hot.
        self.assertEqual(parts_of_cost(ONE_RATE, [1, 1], [[1, 0], [0, 1]], []), [25, 5])
        self.assertEqual(parts_of_cost(ONE_RATE, [1, 1], [[1, 0], [0, 1]], [0]), [25, 25])
        self.assertEqual(parts_of_cost(ONE_RATE, [1, 1, 1], [[1, 0, 1], [0, 1, 0]], []), [35, 0])

    def test_the_order_counts(self):
        self.assertEqual(parts_of_cost(ONE_RATE, [1, 1], [[1, 1], [1, 0]], []), [30, 25])
        self.assertEqual(parts_of_cost(ONE_RATE, [1, 1], [[1, 0], [1, 1]], []), [25, 30])
        self.assertEqual(parts_of_cost(ONE_RATE, [1, 1], [[1, 0], [0, 2]], []), [25, 30])
        self.assertEqual(parts_of_cost(ONE_RATE, [1, 1], [[0, 2], [1, 0]], []), [50, 5])

    def test_a_service_that_never_needs_a_machine(self):
        self.assertEqual(parts_of_cost(PLAIN, [1, 1], [[0, 0], [1, 0], [0, 0]], []), [0, 39, 0])

    def test_no_moments(self):
        self.assertEqual(parts_of_cost(PLAIN, [], [[], []], []), [0, 0])

    def test_five_services(self):
        rows = [[1, 0, 0], [0, 1, 0], [0, 0, 1], [1, 1, 1], [0, 0, 0]]
        self.assertEqual(parts_of_cost(ONE_RATE, [1, 1, 1], rows, []), [25, 5, 5, 35, 0])

    def test_what_the_document_says_of_them(self):
        chance = random.Random(51)
        for _ in range(250):
            tariff, prices, rows, breaks = run = random_pool(chance, 12, 8)
            parts = parts_of_cost(*run)
            self.assertEqual(len(parts), len(rows))
            self.assertEqual(sum(parts), cheapest_cost(tariff, prices, pooled(rows), breaks))
            for k, row in enumerate(rows):
                self.assertGreaterEqual(parts[k], 0)
                self.assertLessEqual(parts[k], cheapest_cost(tariff, prices, row, breaks))
                together = cheapest_cost(tariff, prices, pooled(rows[:k + 1]), breaks)
                self.assertEqual(sum(parts[:k + 1]), together)

    def test_against_all_ways(self):
        chance = random.Random(52)
        for _ in range(60):
            tariff, prices, _, breaks = random_pool(chance, 4, 1)
            rows = [random_needs(chance, len(prices), 1) for _ in range(2)]
            first = slow_least(tariff, prices, rows[0], breaks, 1)
            both = slow_least(tariff, prices, [a + b for a, b in zip(*rows)], breaks, 2)
            self.assertEqual(parts_of_cost(tariff, prices, rows, breaks), [first, both - first])


class Papers(unittest.TestCase):
    def test_the_paper_is_accepted_for_the_parts(self):
        chance = random.Random(53)
        for _ in range(300):
            tariff, prices, rows, breaks = run = random_pool(chance, chance.choice([3, 12]), 8)
            paper = parts_paper(*run)
            plan, papers = paper
            self.assertEqual(plan, cheapest(tariff, prices, pooled(rows), breaks))
            self.assertEqual(len(papers), len(rows))
            for row, one in zip(rows, papers):
                self.assertTrue(is_sound(tariff, prices, breaks, one))
                earned = sum(need * gain for need, gain in zip(row, one[0]))
                self.assertEqual(earned, cheapest_cost(tariff, prices, row, breaks))
            self.assertIs(accepts_parts(*run, parts_of_cost(*run), paper), True)

    def test_kinds_of_values(self):
        plan, papers = parts_paper(PLAIN, [1], [[1], [0]], [])
        self.assertEqual((type(plan), type(papers)), (list, list))

    def test_no_moments(self):
        self.assertEqual(parts_paper(PLAIN, [], [[], []], []), ([], [((), ()), ((), ())]))
        self.assertTrue(accepts_parts(PLAIN, [], [[], []], [], [0, 0], ([], [((), ()), ((), ())])))
        self.assertFalse(accepts_parts(PLAIN, [], [[], []], [], [0, 1], ([], [((), ()), ((), ())])))
        self.assertFalse(accepts_parts(PLAIN, [], [[], []], [], [1, -1], ([], [((), ()), ((), ())])))


class Accepts(unittest.TestCase):
    def setUp(self):
        # The services cost 35, 25 and 0 alone, and 40 together.
        self.told = (ONE_RATE, [1, 1, 1, 1], [[1, 0, 1, 0], [0, 0, 0, 1], [0, 0, 0, 0]], [])
        self.plan, self.papers = parts_paper(*self.told)

    def accepted(self, parts, plan, papers):
        return accepts_parts(*self.told, parts, (plan, papers))

    def test_the_parts(self):
        self.assertEqual(parts_of_cost(*self.told), [35, 5, 0])
        self.assertIs(self.accepted([35, 5, 0], self.plan, self.papers), True)

    def test_other_parts_that_nobody_loses_by(self):
        self.assertTrue(self.accepted([15, 25, 0], self.plan, self.papers))
        self.assertTrue(self.accepted([20, 20, 0], self.plan, self.papers))

    def test_a_negative_part(self):
        self.assertIs(self.accepted([35, 6, -1], self.plan, self.papers), False)
        self.assertIs(self.accepted([41, -1, 0], self.plan, self.papers), False)

    def test_a_part_above_its_own_sum_while_the_total_is_right(self):
        self.assertFalse(self.accepted([36, 4, 0], self.plan, self.papers))
        self.assertFalse(self.accepted([14, 26, 0], self.plan, self.papers))
        self.assertFalse(self.accepted([35, 4, 1], self.plan, self.papers))
        self.assertFalse(self.accepted([5, 35, 0], self.plan, self.papers))

    def test_a_wrong_total(self):
        for parts in ([35, 4, 0], [34, 5, 0], [35, 6, 0], [0, 0, 0], [35, 25, 0]):
            self.assertFalse(self.accepted(parts, self.plan, self.papers), parts)

    def test_too_few_and_too_many_parts(self):
        for parts in ([], [35, 5], [40], [35, 5, 0, 0], [35, 0, 0, 5]):
            self.assertIs(self.accepted(parts, self.plan, self.papers), False, parts)

    def test_too_few_and_too_many_papers(self):
        for papers in ([], self.papers[:2], self.papers[1:], self.papers + self.papers[:1]):
            self.assertIs(self.accepted([35, 5, 0], self.plan, papers), False)
        self.assertIs(self.accepted([35, 5], self.plan, self.papers[:2]), False)
        self.assertIs(self.accepted([35, 5, 0, 0], self.plan, self.papers + self.papers[2:]), False)

    def test_plans(self):
        self.assertEqual(self.plan, [[0, 0, 0, 0]])
        for plan in ([], [[0, 0, 0]], [[0, 0, 0, 0, 0]], [[0, 1, 1, 0]], [[0, 2, 0, 0]], [[0, -1, 0, 0]], [[0, 0, 0, 1]],
                     self.plan + [[]]):
            self.assertIs(self.accepted([35, 5, 0], plan, self.papers), False, plan)
        self.assertTrue(self.accepted([35, 5, 0], self.plan + [[1, 1, 1, 1]], self.papers))

    def test_a_plan_that_costs_more_needs_parts_that_pay_for_it(self):
        # Nothing else is asked of the plan: two machines cost 55, and the services 60 alone.
        dearer = [[0, 0, 0, 1], [1, 1, 1, 0]]
        self.assertEqual(plan_cost(ONE_RATE, [1] * 4, [], dearer), 60)
        self.assertFalse(self.accepted([35, 5, 0], dearer, self.papers))
        self.assertTrue(self.accepted([35, 25, 0], dearer, self.papers))
        self.assertFalse(self.accepted([35, 26, 0], dearer + [[1, 1, 1, 1]], self.papers))

    def test_the_plan_must_fit_the_pool_and_not_one_service(self):
        told = (ONE_RATE, [1], [[1], [1]], [])
        papers = parts_paper(*told)[1]
        self.assertTrue(accepts_parts(*told, [25, 25], ([[0], [0]], papers)))
        self.assertFalse(accepts_parts(*told, [25, 0], ([[0]], papers)))

    def test_papers_that_are_not_sound(self):
        for at in range(3):
            gains, heads = self.papers[at]
            for wrong in (((), ()), (gains, ()), ((), heads), (gains[:-1], heads[:-1]),
                          (gains[:-1] + (gains[-1] + 1000,), heads), ((gains[0], -1) + gains[2:], heads),
                          (gains, heads[:-1] + (tuple(head - 1000 for head in heads[-1]),))):
                papers = list(self.papers)
                papers[at] = wrong
                self.assertIs(self.accepted([35, 5, 0], self.plan, papers), False, (at, wrong))

    def test_papers_for_other_services(self):
        self.assertFalse(self.accepted([35, 5, 0], self.plan, self.papers[::-1]))

    def test_a_sound_paper_may_gain_less_if_the_part_is_not_greater(self):
        nothing = ((0,) * 4, ((0, 0),) * 4)
        self.assertTrue(is_sound(ONE_RATE, [1] * 4, [], nothing))
        self.assertTrue(self.accepted([35, 5, 0], self.plan, self.papers[:2] + [nothing]))
        self.assertFalse(self.accepted([35, 5, 0], self.plan, [self.papers[0], nothing, nothing]))

    def test_one_part_changed(self):
        chance = random.Random(54)
        seen = {True: 0, False: 0}
        for _ in range(300):
            tariff, prices, rows, breaks = run = random_pool(chance, 8, 4)
            paper = parts_paper(*run)
            parts = parts_of_cost(*run)
            a, b, by = chance.randrange(len(rows)), chance.randrange(len(rows)), chance.choice([0, 1, 5, 20])
            parts[a] += by
            parts[b] -= by
            own = [cheapest_cost(tariff, prices, row, breaks) for row in rows]
            expected = all(0 <= part <= most for part, most in zip(parts, own))
            seen[expected] += 1
            self.assertIs(accepts_parts(*run, parts, paper), expected)
            self.assertFalse(accepts_parts(*run, [parts[0] + 1] + parts[1:], paper))
        self.assertGreater(min(seen.values()), 50)


class Long(unittest.TestCase):
    def test_long_runs_are_quick(self):
        chance = random.Random(55)
        prices = [chance.randint(1, 100) for _ in range(500)]
        rows = [[chance.randint(0, 8) for _ in range(500)] for _ in range(5)]
        breaks = list(range(4, 500, 23))
        start = time.perf_counter()
        run = (FOUR_RATES, prices, rows, breaks)
        self.assertTrue(accepts_parts(*run, parts_of_cost(*run), parts_paper(*run)))
        self.assertLess(time.perf_counter() - start, 10)


class NothingIsShared(unittest.TestCase):
    def test_arguments_and_answers(self):
        told = (ONE_RATE, [1, 1, 1], [[1, 0, 1], [0, 1, 0]], [1])
        kept = copy.deepcopy(told)
        parts, paper = parts_of_cost(*told), parts_paper(*told)
        held = copy.deepcopy((parts, paper))
        accepts_parts(*told, parts, paper)
        pooled(told[2]).append(7)
        self.assertEqual((told, (parts, paper)), (kept, held))
        parts.append(9)
        paper[0][0].append(9)
        paper[1].append(9)
        self.assertEqual((parts_of_cost(*told), parts_paper(*told)), held)
        self.assertEqual(told, kept)

    def test_one_service(self):
        rows = [[1, 0]]
        pooled(rows).append(9)
        pooled(rows)[0] = 7
        self.assertEqual(rows, [[1, 0]])
        self.assertEqual(make(PLAIN, [1, 1], rows[0], []), parts_paper(PLAIN, [1, 1], rows, [])[1][0])


if __name__ == "__main__":
    unittest.main()
