"""Points 41 and 42: papers for runs, which are sound, and which are accepted for a plan."""

import copy
import random
import time
import unittest

from cases import FOUR_RATES, LARGEST, ONE_RATE, PLAIN, all_rows, random_run, slow_step
from ebbkeep.papers import accepts, is_sound, make
from ebbkeep.plans import cheapest, cheapest_cost, plan_cost


def states_possible(tariff, breaks, t):
    """The states that a machine can have in a moment, as point 41 names them."""
    if t == 0 or t - 1 in breaks:
        return [0, len(tariff[0])]
    return list(range(len(tariff[1])))


def slow_sound(tariff, prices, breaks, paper):
    """Point 41, word by word."""
    gains, heads = paper
    last = len(tariff[0])
    if len(gains) != len(prices) or len(heads) != len(prices) or any(gain < 0 for gain in gains):
        return False
    if any(len(row) != last + 1 for row in heads):
        return False
    for t in range(len(prices)):
        for j in range(last + 1):
            own = (tariff[0] + (0,))[j] * prices[t] - (gains[t] if j == 0 else 0)
            if j not in states_possible(tariff, breaks, t):
                if heads[t][j] != 0:
                    return False
            elif t == 0:
                if heads[0][j] > slow_step(tariff, last, j) + own:
                    return False
            else:
                for i in states_possible(tariff, breaks, t - 1):
                    step = slow_step(tariff, last if t - 1 in breaks else i, j)
                    if step is not None and heads[t][j] > heads[t - 1][i] + step + own:
                        return False
    if len(prices) == 0:
        return True
    return all(heads[-1][j] >= 0 for j in states_possible(tariff, breaks, len(prices) - 1))


def changed(paper, at, by):
    """Return the paper with one number changed; at is (moment,) for a gain or (moment, state) for a head."""
    gains, heads = list(paper[0]), [list(row) for row in paper[1]]
    if len(at) == 1:
        gains[at[0]] += by
    else:
        heads[at[0]][at[1]] += by
    return (tuple(gains), tuple(tuple(row) for row in heads))


def all_numbers(paper):
    places = [(t,) for t in range(len(paper[0]))]
    return places + [(t, j) for t, row in enumerate(paper[1]) for j in range(len(row))]


def earned(needs, paper):
    return sum(need * gain for need, gain in zip(needs, paper[0]))


class Make(unittest.TestCase):
    def check(self, run):
        tariff, prices, needs, breaks = run
        paper = make(*run)
        plan = cheapest(*run)
        self.assertTrue(slow_sound(tariff, prices, breaks, paper), run)
        self.assertIs(is_sound(tariff, prices, breaks, paper), True)
        self.assertEqual(earned(needs, paper), plan_cost(tariff, prices, breaks, plan), run)
        self.assertIs(accepts(*run, plan, paper), True)
        return paper

    def test_no_moments(self):
        self.assertEqual(self.check((PLAIN, [], [], [])), ((), ()))

    def test_nothing_needed(self):
        self.check((PLAIN, [1, 5, 2], [0, 0, 0], []))
        self.check((PLAIN, [1, 5, 2], [0, 0, 0], [0, 1]))

    def test_one_moment(self):
        self.assertEqual(self.check((PLAIN, [2], [3], [])), ((48,), ((0, 0, 0),)))

    def test_breaks(self):
        for breaks in ([], [0], [1], [2], [3], [0, 1], [1, 2], [0, 1, 2, 3]):
            for needs in ([1, 1, 1, 1], [1, 0, 0, 1], [2, 0, 0, 1], [0, 3, 0, 0], [2, 1, 2, 1]):
                for tariff in (ONE_RATE, PLAIN, FOUR_RATES):
                    self.check((tariff, [1, 2, 3, 1], needs, breaks))

    def test_all_short_runs_with_equal_prices(self):
        for code in range(3**5):
            needs = [code // 3**at % 3 for at in range(5)]
            for tariff in (ONE_RATE, PLAIN):
                self.check((tariff, [2] * 5, needs, []))
                self.check((tariff, [2] * 5, needs, [1]))

    def test_many_runs_of_many_shapes(self):
        chance = random.Random(47)
        for _ in range(1500):
            self.check(random_run(chance, chance.choice([3, 8, 25]), chance.choice([1, 3, 40])))

    def test_totals_at_a_change_of_the_idle_state(self):
        for total in (1, 2, 5, 6, 16, 17, 60, 61):
            self.check((FOUR_RATES, [1, total, 1], [2, 0, 2], []))
            self.check((FOUR_RATES, [3, total, 1, 1], [2, 0, 2, 1], []))

    def test_great_numbers(self):
        self.check((LARGEST, [100, 1, 100], [40, 0, 40], []))
        self.check((LARGEST, [100] * 40, [t for t in range(1, 41)], [7]))

    def test_long_runs_are_quick(self):
        chance = random.Random(48)
        prices = [chance.randint(1, 100) for _ in range(500)]
        shapes = [
            [chance.randint(0, 40) for _ in range(500)],
            [abs(40 - t % 81) for t in range(500)],
            [40 * (t % 50 == 0) for t in range(500)],
            [0] * 499 + [1],
        ]
        start = time.perf_counter()
        for needs in shapes:
            for breaks in ([], list(range(0, 500, 7)), list(range(500))):
                for tariff in (FOUR_RATES, LARGEST):
                    self.assertTrue(accepts(tariff, prices, needs, breaks, cheapest(tariff, prices, needs, breaks),
                                            make(tariff, prices, needs, breaks)))
        self.assertLess(time.perf_counter() - start, 20)

    def test_kinds_of_values(self):
        gains, heads = make(PLAIN, [1, 2], [2, 1], [0])
        self.assertIs(type(gains), tuple)
        self.assertIs(type(heads), tuple)
        self.assertTrue(all(type(row) is tuple for row in heads))
        self.assertTrue(all(type(number) is int for row in heads + (gains,) for number in row))


class Sound(unittest.TestCase):
    def setUp(self):
        self.run_told = (PLAIN, [1, 6, 20, 1], [1, 2, 0, 1], [1])
        self.paper = make(*self.run_told)

    def sound(self, paper):
        return is_sound(PLAIN, [1, 6, 20, 1], [1], paper)

    def test_empty(self):
        self.assertTrue(is_sound(PLAIN, [], [], ((), ())))
        self.assertFalse(is_sound(PLAIN, [], [], ((0,), ())))
        self.assertFalse(is_sound(PLAIN, [], [], ((), ((0, 0, 0),))))

    def test_nothing_gained(self):
        self.assertTrue(is_sound(PLAIN, [3, 3], [], ((0, 0), ((0, 0, 0), (0, 0, 0)))))
        self.assertTrue(is_sound(PLAIN, [3, 3], [], ((0, 0), ((57, 0, 0), (54, 0, 0)))))
        self.assertFalse(is_sound(PLAIN, [3, 3], [], ((0, 0), ((57, 0, 0), (58, 0, 0)))))

    def test_bounds_of_the_first_moment(self):
        self.assertTrue(is_sound(PLAIN, [3], [], ((57,), ((0, 0, 0),))))
        self.assertTrue(is_sound(PLAIN, [3], [], ((7,), ((50, 0, 0),))))
        self.assertFalse(is_sound(PLAIN, [3], [], ((7,), ((51, 0, 0),))))
        self.assertFalse(is_sound(PLAIN, [3], [], ((58,), ((0, 0, 0),))))
        self.assertFalse(is_sound(PLAIN, [3], [], ((58,), ((-1, 0, 0),))))
        self.assertFalse(is_sound(PLAIN, [3], [], ((57,), ((0, 0, 1),))))

    def test_every_step_binds(self):
        # In the moment 1 asleep is got to from hot alone, off from hot and from off, hot from both.
        heads = ((57, 0, 0), (54, 63, 0))
        self.assertTrue(is_sound(PLAIN, [3, 3], [], ((0, 0), heads)))
        self.assertFalse(is_sound(PLAIN, [3, 3], [], ((0, 0), ((57, 0, 0), (54, 64, 0)))))
        self.assertFalse(is_sound(PLAIN, [3, 3], [], ((0, 0), ((27, 0, 0), (55, 33, 0)))))
        self.assertTrue(is_sound(PLAIN, [3, 3], [], ((0, 0), ((27, 0, 0), (54, 33, 0)))))
        self.assertFalse(is_sound(PLAIN, [3, 3], [], ((0, 0), ((27, 0, 0), (54, 34, 0)))))
        self.assertFalse(is_sound(PLAIN, [3, 3], [], ((0, 0), ((-9, 0, 0), (0, 0, 0)))))

    def test_steps_that_are_not_possible_do_not_bind(self):
        # A head of asleep in the moment 2 need not keep to that of off in the moment 1.
        self.assertTrue(is_sound(PLAIN, [1, 1, 1], [], ((0, 0, 0), ((39, 0, 0), (39, 41, 0), (39, 41, 0)))))

    def test_after_a_break_all_states_lead_to_off(self):
        self.assertTrue(is_sound(ONE_RATE, [1, 1], [0], ((25, 25), ((0, 0), (0, 0)))))
        self.assertFalse(is_sound(ONE_RATE, [1, 1], [], ((25, 25), ((0, 0), (0, 0)))))
        self.assertFalse(is_sound(ONE_RATE, [1, 1], [0], ((26, 24), ((-1, 0), (0, 0)))))
        self.assertFalse(is_sound(ONE_RATE, [1, 1], [0], ((25, 26), ((0, 0), (0, 0)))))

    def test_heads_of_states_that_a_machine_cannot_have(self):
        self.assertTrue(self.sound(self.paper))
        for t in (0, 2):
            for by in (1, -1, 10**30):
                self.assertFalse(self.sound(changed(self.paper, (t, 1), by)))

    def test_a_negative_head_of_a_state_that_a_machine_can_have(self):
        # From every state a machine can go off for free, so the last head of off is negative, too.
        tariff, prices, needs, breaks = self.run_told
        for t in range(4):
            for j in states_possible(tariff, breaks, t):
                wrong = changed(self.paper, (t, j), -1 - self.paper[1][t][j])
                self.assertEqual(wrong[1][t][j], -1)
                self.assertFalse(self.sound(wrong), (t, j))

    def test_a_lesser_head_that_is_not_negative(self):
        self.assertTrue(is_sound(ONE_RATE, [1, 1], [], ((0, 0), ((25, 0), (25, 0)))))
        self.assertTrue(is_sound(ONE_RATE, [1, 1], [], ((0, 0), ((3, 0), (8, 0)))))
        self.assertFalse(is_sound(ONE_RATE, [1, 1], [], ((0, 0), ((3, 0), (9, 0)))))

    def test_lower_last_heads(self):
        tariff, prices, needs, breaks = run = (PLAIN, [1, 6, 20, 1], [1, 2, 0, 0], [1])
        gains, heads = make(*run)
        last = heads[-1]
        self.assertGreater(min(last[0], last[1]), 0)
        lower = (gains, heads[:-1] + ((0, 0, 0),))
        self.assertTrue(is_sound(tariff, prices, breaks, lower))
        self.assertTrue(accepts(*run, cheapest(*run), lower))
        below = (gains, heads[:-1] + (tuple(head - 1 for head in last),))
        self.assertEqual(is_sound(tariff, prices, breaks, below), min(last) > 0)

    def test_all_last_heads_lower_than_0(self):
        gains, heads = self.paper
        lower = (gains, heads[:-1] + (tuple(head - 1 for head in heads[-1]),))
        self.assertEqual(min(heads[-1]), 0)
        self.assertFalse(self.sound(lower))

    def test_numbers_of_gains_heads_and_states(self):
        gains, heads = self.paper
        for wrong in (
            (gains[:-1], heads), (gains + (0,), heads), (gains, heads[:-1]), (gains, heads + heads[-1:]),
            (gains[:-1], heads[:-1]), (gains + (0,), heads + heads[-1:]), ((), ()), (gains, ()), ((), heads),
            (gains, heads[:-1] + (heads[-1][:-1],)), (gains, heads[:-1] + (heads[-1] + (0,),)),
            (gains, ((),) + heads[1:]), (gains, (heads[0] + (0,),) + heads[1:]), (gains, ((),) * 4),
        ):
            self.assertIs(self.sound(wrong), False, wrong)

    def test_a_negative_gain(self):
        self.assertFalse(is_sound(ONE_RATE, [1, 1], [], ((-1, 0), ((0, 0), (0, 0)))))
        self.assertFalse(is_sound(ONE_RATE, [1, 1], [], ((0, -1), ((0, 0), (0, 0)))))
        self.assertTrue(is_sound(ONE_RATE, [1, 1], [], ((0, 0), ((0, 0), (0, 0)))))

    def test_one_number_changed(self):
        chance = random.Random(49)
        seen = {True: 0, False: 0}
        for _ in range(250):
            tariff, prices, needs, breaks = run = random_run(chance, 6, 3)
            paper = make(*run)
            for at in all_numbers(paper):
                other = changed(paper, at, chance.choice([1, -1, 1, -1, 2, -5, 100]))
                expected = slow_sound(tariff, prices, breaks, other)
                seen[expected] += 1
                self.assertIs(is_sound(tariff, prices, breaks, other), expected, (run, other))
                accepted = expected and earned(needs, other) == cheapest_cost(*run)
                self.assertIs(accepts(*run, cheapest(*run), other), accepted)
        self.assertGreater(min(seen.values()), 300)

    def test_a_paper_for_another_run(self):
        chance = random.Random(50)
        seen = {True: 0, False: 0}
        for _ in range(300):
            tariff, prices, needs, breaks = run = random_run(chance, 6, 3)
            paper = make(*run)
            others = [t for t in breaks if chance.random() < 0.5]
            dearer = [price + chance.choice([0, 0, 1, -1]) for price in prices]
            for told in ((prices, others), (dearer, breaks), (prices + [1], breaks), (prices[1:], breaks)):
                expected = slow_sound(tariff, *told, paper)
                seen[expected] += 1
                self.assertIs(is_sound(tariff, *told, paper), expected)
        self.assertGreater(min(seen.values()), 100)

    def test_no_machine_gains_more_than_it_costs(self):
        chance = random.Random(51)
        for _ in range(150):
            tariff, prices, needs, breaks = run = random_run(chance, 5, 3)
            gains = make(*run)[0]
            for row, cost in all_rows(tariff, prices, breaks):
                self.assertGreaterEqual(cost, sum(gain for gain, state in zip(gains, row) if state == 0))


class Accepts(unittest.TestCase):
    def setUp(self):
        self.run_told = (PLAIN, [1, 6, 20, 1], [1, 2, 0, 1], [1])
        self.plan = cheapest(*self.run_told)
        self.paper = make(*self.run_told)

    def accepted(self, plan, paper):
        return accepts(*self.run_told, plan, paper)

    def test_the_cheapest_plan(self):
        self.assertIs(self.accepted(self.plan, self.paper), True)

    def test_other_plans_that_cost_as_much(self):
        self.assertTrue(self.accepted(self.plan[::-1], self.paper))
        self.assertTrue(self.accepted(self.plan + [[2, 2, 2, 2]], self.paper))
        self.assertTrue(accepts(PLAIN, [], [], [], [[], []], ((), ())))

    def test_equal_costs_in_a_gap(self):
        # hot 5 times 4 is as much as the wake of off.
        run = (ONE_RATE, [1, 4, 1], [1, 0, 1], [])
        for state in (0, 1):
            self.assertTrue(accepts(*run, [[0, state, 0]], make(*run)))

    def test_plans_that_cost_more(self):
        for plan in ([[0, 0, 2, 0], [0, 0, 2, 2]], [[0, 0, 0, 0], [2, 0, 2, 2]], self.plan + [[2, 2, 2, 0]]):
            self.assertFalse(self.accepted(plan, self.paper))

    def test_plans_that_do_not_fit(self):
        for plan in ([], self.plan[:1], [[0, 0, 1, 0], [2, 0, 2, 2]], [row[:3] for row in self.plan],
                     self.plan + [[]], self.plan + [[3, 3, 3, 3]], self.plan + [[-1, 2, 2, 2]]):
            self.assertIs(self.accepted(plan, self.paper), False, plan)

    def test_a_plan_that_does_not_fit_but_costs_what_is_gained(self):
        run = (ONE_RATE, [1, 1], [1, 1], [])
        self.assertEqual(plan_cost(ONE_RATE, [1, 1], [], [[0, 0]]), 30)
        self.assertFalse(accepts(ONE_RATE, [1, 1], [2, 0], [], [[0, 0]], ((15, 15), ((10, 0), (0, 0)))))
        self.assertTrue(accepts(*run, [[0, 0]], ((15, 15), ((10, 0), (0, 0)))))

    def test_papers_that_are_not_sound(self):
        gains, heads = self.paper
        for paper in (((), ()), (gains, ()), ((), heads), (gains[:-1], heads[:-1]), changed(self.paper, (0, 1), 1)):
            self.assertIs(self.accepted(self.plan, paper), False)

    def test_a_sound_paper_that_gains_less(self):
        less = changed(self.paper, (0,), -1)
        self.assertTrue(is_sound(PLAIN, [1, 6, 20, 1], [1], less))
        self.assertFalse(self.accepted(self.plan, less))
        nothing = ((0,) * 4, ((0,) * 3,) * 4)
        self.assertTrue(is_sound(PLAIN, [1, 6, 20, 1], [1], nothing))
        self.assertFalse(self.accepted(self.plan, nothing))

    def test_only_cheapest_plans_are_accepted(self):
        chance = random.Random(52)
        seen = {True: 0, False: 0}
        for _ in range(400):
            tariff, prices, needs, breaks = run = random_run(chance, 5, 2)
            paper = make(*run)
            rows = [list(row) for row, _ in all_rows(tariff, prices, breaks)]
            plan = cheapest(*run)
            for at in range(len(plan)):
                if chance.random() < 0.7:
                    plan[at] = chance.choice([row for row in rows if all(
                        state == 0 or plan[at][t] != 0 for t, state in enumerate(row))])
            expected = plan_cost(tariff, prices, breaks, plan) == cheapest_cost(*run)
            seen[expected] += 1
            self.assertIs(accepts(*run, plan, paper), expected)
        self.assertGreater(min(seen.values()), 40)


class NothingIsShared(unittest.TestCase):
    def test_arguments_stay_as_they_are(self):
        run = (PLAIN, [1, 6, 20, 1], [1, 2, 0, 1], [1])
        kept = copy.deepcopy(run)
        paper = make(*run)
        plan = cheapest(*run)
        held = copy.deepcopy((plan, paper))
        is_sound(run[0], run[1], run[3], paper)
        accepts(*run, plan, paper)
        self.assertEqual(run, kept)
        self.assertEqual((plan, paper), held)
        self.assertEqual(make(*run), paper)


if __name__ == "__main__":
    unittest.main()
