"""Points 48 and 49: the choice among tariffs, and papers for it."""

import copy
import random
import time
import unittest

from cases import (
    FOUR_RATES, LARGEST, ONE_RATE, PLAIN, SMALLEST, random_history, random_tariff, slow_least, small_tariff,
)
from ebbkeep.choices import accepts_choice, choice_paper, choose
from ebbkeep.papers import is_sound, make
from ebbkeep.plans import cheapest, cheapest_cost, fits, plan_cost

# For a single moment with the price 1 and the need 1 these cost 25, 25, 39 and 25.
LIKE_ONE = ((6,), (0, 19))
ASLEEP_ONE = ((5, 1), (0, 3, 20))
SEVERAL = [ONE_RATE, LIKE_ONE, PLAIN, ASLEEP_ONE]


def with_less(paper, t):
    """Return the paper with one less gained in a moment, which stays sound."""
    gains, heads = paper
    return (gains[:t] + (gains[t] - 1,) + gains[t + 1:], heads)


class Choose(unittest.TestCase):
    def test_one_tariff(self):
        self.assertEqual(choose([PLAIN], [1], [1], []), 0)

    def test_the_least_cost(self):
        self.assertEqual(choose([PLAIN, ONE_RATE], [1], [1], []), 1)
        self.assertEqual(choose([ONE_RATE, PLAIN], [1], [1], []), 0)
        self.assertEqual(choose([LARGEST, FOUR_RATES, PLAIN, ONE_RATE, SMALLEST], [1], [1], []), 4)

    def test_of_several_the_least_index(self):
        self.assertEqual(choose(SEVERAL, [1], [1], []), 0)
        self.assertEqual(choose(SEVERAL[1:], [1], [1], []), 0)
        self.assertEqual(choose(SEVERAL[2:], [1], [1], []), 1)
        self.assertEqual(choose([PLAIN, PLAIN, PLAIN], [1], [1], []), 0)
        self.assertEqual(choose([PLAIN, ONE_RATE, ONE_RATE, LIKE_ONE], [1], [1], []), 1)

    def test_nothing_needed(self):
        self.assertEqual(choose([LARGEST, SMALLEST], [], [], []), 0)
        self.assertEqual(choose([LARGEST, SMALLEST], [4], [0], []), 0)

    def test_breaks_count(self):
        dear_wake, dear_hot = ((1,), (0, 50)), ((20,), (0, 5))
        self.assertEqual(choose([dear_hot, dear_wake], [1, 1, 1], [1, 1, 1], []), 1)
        self.assertEqual(choose([dear_hot, dear_wake], [1, 1, 1], [1, 1, 1], [0, 1]), 0)

    def test_against_all_ways(self):
        chance = random.Random(48)
        for _ in range(100):
            tariffs = [small_tariff(chance) for _ in range(chance.randint(1, 5))]
            prices, needs, breaks = random_history(chance, 4, 2)
            costs = [slow_least(tariff, prices, needs, breaks, max(needs, default=0)) for tariff in tariffs]
            self.assertEqual(choose(tariffs, prices, needs, breaks), costs.index(min(costs)))


class Papers(unittest.TestCase):
    def test_the_paper_is_accepted_for_the_choice_and_no_other(self):
        chance = random.Random(49)
        for _ in range(300):
            tariffs = [chance.choice([small_tariff, random_tariff])(chance) for _ in range(chance.randint(1, 5))]
            if chance.random() < 0.3:
                tariffs = tariffs[:4] + tariffs[:1]
            history = random_history(chance, chance.choice([3, 12]), chance.choice([2, 40]))
            choice = choose(tariffs, *history)
            paper = choice_paper(tariffs, *history)
            plan, papers = paper
            self.assertEqual(plan, cheapest(tariffs[choice], *history))
            self.assertEqual(len(papers), len(tariffs))
            for tariff, one in zip(tariffs, papers):
                self.assertTrue(is_sound(tariff, history[0], history[2], one))
            for other in range(-2, len(tariffs) + 2):
                self.assertIs(accepts_choice(tariffs, *history, other, paper), other == choice, (tariffs, history))

    def test_kinds_of_values(self):
        plan, papers = choice_paper([PLAIN, ONE_RATE], [1], [1], [])
        self.assertEqual((type(plan), type(papers)), (list, list))

    def test_no_moments(self):
        self.assertEqual(choice_paper([PLAIN, ONE_RATE], [], [], []), ([], [((), ()), ((), ())]))
        self.assertTrue(accepts_choice([PLAIN, ONE_RATE], [], [], [], 0, ([], [((), ()), ((), ())])))
        self.assertFalse(accepts_choice([PLAIN, ONE_RATE], [], [], [], 1, ([], [((), ()), ((), ())])))


class Accepts(unittest.TestCase):
    def setUp(self):
        self.told = ([1, 2, 1], [1, 0, 2], [1])
        self.tariffs = [PLAIN, ONE_RATE, FOUR_RATES]
        self.plan, self.papers = choice_paper(self.tariffs, *self.told)

    def accepted(self, choice, plan, papers):
        return accepts_choice(self.tariffs, *self.told, choice, (plan, papers))

    def test_the_right_choice(self):
        self.assertEqual(choose(self.tariffs, *self.told), 1)
        self.assertIs(self.accepted(1, self.plan, self.papers), True)

    def test_choices_that_are_no_index(self):
        for choice in (-1, -2, -3, 3, 4, 10**30, -10**30):
            self.assertIs(self.accepted(choice, self.plan, self.papers), False)
        self.assertIs(accepts_choice([PLAIN], [], [], [], -1, ([], [((), ())])), False)
        self.assertIs(accepts_choice([PLAIN], [], [], [], 1, ([], [((), ())])), False)
        self.assertIs(accepts_choice([PLAIN], [], [], [], 0, ([], [((), ())])), True)

    def test_other_choices(self):
        for choice in (0, 2):
            self.assertFalse(self.accepted(choice, self.plan, self.papers))
            self.assertFalse(self.accepted(choice, cheapest(self.tariffs[choice], *self.told), self.papers))

    def test_too_few_and_too_many_papers(self):
        self.assertIs(self.accepted(1, self.plan, []), False)
        self.assertIs(self.accepted(1, self.plan, self.papers[:2]), False)
        self.assertIs(self.accepted(1, self.plan, self.papers[1:]), False)
        self.assertIs(self.accepted(1, self.plan, self.papers + self.papers[:1]), False)
        self.assertIs(self.accepted(1, self.plan, self.papers + self.papers[2:]), False)

    def test_plans_that_do_not_fit(self):
        for plan in ([], self.plan[:1], [row[:2] for row in self.plan], self.plan + [[1, 1]], self.plan + [[2, 2, 2]],
                     self.plan + [[-1, -1, -1]], [[0, 0, 0], [1, 1, 1]]):
            self.assertIs(self.accepted(1, plan, self.papers), False, plan)

    def test_the_plan_must_fit_with_the_chosen_tariff(self):
        # The state 2 is off for PLAIN; with one rate there is no such state, and off is 1.
        history = ([1], [0], [])
        papers = [make(PLAIN, *history), make(ONE_RATE, *history)]
        self.assertTrue(accepts_choice([PLAIN, ONE_RATE], *history, 0, ([[2]], papers)))
        self.assertFalse(accepts_choice([PLAIN, ONE_RATE], *history, 0, ([[1]], papers)))
        papers = papers[::-1]
        self.assertTrue(accepts_choice([ONE_RATE, PLAIN], *history, 0, ([[1]], papers)))
        self.assertFalse(accepts_choice([ONE_RATE, PLAIN], *history, 0, ([[2]], papers)))

    def test_plans_that_cost_more(self):
        self.assertFalse(self.accepted(1, self.plan + [[0, 1, 1]], self.papers))

    def test_another_plan_that_costs_as_much(self):
        self.assertTrue(self.accepted(1, self.plan[::-1] + [[1, 1, 1]], self.papers))

    def test_papers_that_are_not_sound(self):
        for at in range(3):
            gains, heads = self.papers[at]
            for wrong in (((), ()), (gains, ()), ((), heads), (gains[:-1] + (gains[-1] + 1,), heads),
                          (gains, heads[:-1] + (tuple(head - 1 for head in heads[-1]),)),
                          ((gains[0] - 1000,) + gains[1:], heads), self.papers[at - 1]):
                papers = list(self.papers)
                papers[at] = wrong
                self.assertIs(self.accepted(1, self.plan, papers), False, (at, wrong))

    def test_a_sum_that_is_one_less_than_the_cost(self):
        papers = list(self.papers)
        papers[1] = with_less(papers[1], 0)
        self.assertTrue(is_sound(ONE_RATE, [1, 2, 1], [1], papers[1]))
        self.assertFalse(self.accepted(1, self.plan, papers))

    def test_a_lower_sum_of_another_tariff(self):
        # Two tariffs cost 25 and a third one 39; the papers may gain less, down to 25 and for a lesser index to 26.
        tariffs = [PLAIN, ONE_RATE]
        gains_of_first = [39, 38, 26, 25, 24, 0]
        for gain, expected in zip(gains_of_first, [True, True, True, False, False, False]):
            papers = [((gain,), ((0, 0, 0),)), ((25,), ((0, 0),))]
            self.assertTrue(is_sound(PLAIN, [1], [], papers[0]))
            self.assertIs(accepts_choice(tariffs, [1], [1], [], 1, ([[0]], papers)), expected, gain)
        for gain, expected in zip(gains_of_first, [True, True, True, True, False, False]):
            papers = [((25,), ((0, 0),)), ((gain,), ((0, 0, 0),))]
            self.assertIs(accepts_choice(tariffs[::-1], [1], [1], [], 0, ([[0]], papers)), expected, gain)

    def test_several_that_cost_as_much(self):
        paper = choice_paper(SEVERAL, [1], [1], [])
        self.assertEqual([sum(gains) for gains, _ in paper[1]], [25, 25, 39, 25])
        for choice in range(4):
            self.assertEqual(accepts_choice(SEVERAL, [1], [1], [], choice, ([[0]], paper[1])), choice == 0)
        paper = choice_paper([PLAIN, PLAIN], [1], [1], [])
        self.assertTrue(accepts_choice([PLAIN, PLAIN], [1], [1], [], 0, paper))
        self.assertFalse(accepts_choice([PLAIN, PLAIN], [1], [1], [], 1, paper))

    def test_what_is_accepted_is_right(self):
        chance = random.Random(50)
        seen = {True: 0, False: 0}
        for _ in range(400):
            tariffs = [small_tariff(chance) for _ in range(chance.randint(1, 3))]
            history = prices, needs, breaks = random_history(chance, 4, 2)
            at = chance.randrange(len(tariffs))
            papers = [make(tariff, *history) for tariff in tariffs]
            if prices and chance.random() < 0.5:
                k = chance.randrange(len(tariffs))
                papers[k] = with_less(papers[k], chance.randrange(len(prices)))
            plan = cheapest(tariffs[at], *history)
            if accepts_choice(tariffs, *history, at, (plan, papers)):
                self.assertEqual(at, choose(tariffs, *history))
                self.assertTrue(fits(tariffs[at], *history, plan))
                least = min(cheapest_cost(tariff, *history) for tariff in tariffs)
                self.assertEqual(plan_cost(tariffs[at], prices, breaks, plan), least)
                seen[True] += 1
            else:
                seen[False] += 1
        self.assertGreater(min(seen.values()), 80)


class Long(unittest.TestCase):
    def test_long_runs_are_quick(self):
        chance = random.Random(51)
        tariffs = [SMALLEST, ONE_RATE, PLAIN, FOUR_RATES, LARGEST]
        prices = [chance.randint(1, 100) for _ in range(500)]
        needs = [chance.randint(0, 40) for _ in range(500)]
        breaks = list(range(4, 500, 23))
        start = time.perf_counter()
        choice = choose(tariffs, prices, needs, breaks)
        paper = choice_paper(tariffs, prices, needs, breaks)
        self.assertTrue(accepts_choice(tariffs, prices, needs, breaks, choice, paper))
        self.assertLess(time.perf_counter() - start, 10)


class NothingIsShared(unittest.TestCase):
    def test_arguments_and_answers(self):
        told = ([PLAIN, ONE_RATE], [1, 2, 1], [1, 0, 2], [1])
        kept = copy.deepcopy(told)
        paper = choice_paper(*told)
        held = copy.deepcopy(paper)
        choose(*told)
        accepts_choice(*told, 1, paper)
        self.assertEqual((told, paper), (kept, held))
        paper[0][0].append(9)
        paper[1].append(9)
        self.assertEqual(choice_paper(*told), held)
        self.assertEqual(told, kept)


if __name__ == "__main__":
    unittest.main()
