"""Points 71 and 72: audits, and which are accepted."""

import copy
import random
import time
import unittest

from cases import FOUR_RATES, ONE_RATE, PLAIN
from ebbkeep.audits import accepts_audit, accepts_spent, keeps_quota, make_audit
from ebbkeep.house import restart
from ebbkeep.papers import accepts
from ebbkeep.plans import cheapest, plan_cost
from ebbkeep.queues import accepts_drop, make_drop
from ebbkeep.records import history, queue_moments
from houses import NAMES, changed, house_of, random_house, service

# One machine runs two of many jobs in each moment, so jobs are dropped behind the moments 3 to 5.
SETTING = house_of(service("a", 2, 0, 2, 1, 1, 5000, PLAIN), service("b", tariff=ONE_RATE), quota=9)
LEDGER = [[(1, came, False), (2, 1, False)] for came in (5, 4, 4, 4, 0, 0, 0)]


class MakeAudit(unittest.TestCase):
    def test_example(self):
        record = restart(SETTING, LEDGER).record()
        spent, plan, paper, drops = make_audit(SETTING, record, 0)
        self.assertEqual([deeds[0][8] for deeds in record], [0, 0, 0, 1, 2, 2, 0])
        self.assertEqual(spent, 30 + 9 * 6 + 2)
        self.assertEqual(plan, [[0, 0, 0, 0, 0, 0, 2]])
        self.assertTrue(accepts(PLAIN, *history(record, 0), plan, paper))
        self.assertEqual(drops, [(3, (0, 1)), (4, (0, 2)), (5, (1, 3))])
        self.assertEqual(make_audit(SETTING, record, 1)[3], [])

    def test_the_empty_record(self):
        self.assertEqual(make_audit(SETTING, [], 0), (0, [], ((), ()), []))

    def test_drawn_houses(self):
        chance = random.Random(71)
        for _ in range(100):
            setting, ledger = random_house(chance)
            record = restart(setting, ledger).record()
            for k, one in enumerate(setting[1]):
                spent, plan, paper, drops = make_audit(setting, record, k)
                told = history(record, k)
                self.assertEqual(spent, sum(deeds[k][12] for deeds in record))
                self.assertEqual(plan, cheapest(one[7:], *told))
                self.assertTrue(accepts(one[7:], *told, plan, paper))
                moments = queue_moments(record, k)
                expected = [(u, make_drop(one[2], one[3], moments, u)) for u in range(len(ledger)) if record[u][k][8] > 0]
                self.assertEqual(drops, expected)


class AcceptsAudit(unittest.TestCase):
    def setUp(self):
        self.record = restart(SETTING, LEDGER).record()
        self.audit = make_audit(SETTING, self.record, 0)

    def told(self, audit, k=0, record=None):
        return accepts_audit(SETTING, LEDGER, self.record if record is None else record, k, audit)

    def refuse(self, at, value):
        self.assertIs(self.told(changed(self.audit, at, value)), False, value)

    def test_what_is_made(self):
        self.assertIs(self.told(self.audit), True)
        self.assertIs(self.told(make_audit(SETTING, self.record, 1), k=1), True)

    def test_the_empty_record(self):
        self.assertIs(accepts_audit(SETTING, [], [], 0, (0, [], ((), ()), [])), True)
        self.assertIs(accepts_audit(SETTING, [], [], 0, (1, [], ((), ()), [])), False)
        self.assertIs(accepts_audit(SETTING, [], [], 0, (0, [], ((), ()), [(0, (0, 0))])), False)
        self.assertIs(accepts_audit(SETTING, LEDGER, [], 0, (0, [], ((), ()), [])), False)

    def test_an_audit_of_another_service(self):
        self.assertIs(self.told(self.audit, k=1), False)
        self.assertIs(self.told(make_audit(SETTING, self.record, 1), k=0), False)

    def test_another_sum(self):
        for spent in (0, self.audit[0] - 1, self.audit[0] + 1, -self.audit[0], 10**30):
            self.refuse(0, spent)

    def test_a_machine_more_that_is_always_off(self):
        self.assertIs(self.told(changed(self.audit, 1, self.audit[1] + [[2] * 7])), True)
        self.assertIs(self.told(changed(self.audit, 1, [[2] * 7] * 3 + self.audit[1])), True)

    def test_other_plans(self):
        self.refuse(1, [])
        self.refuse(1, [[2] * 7])
        self.refuse(1, self.audit[1] * 2)
        self.refuse(1, self.audit[1] + [[]])
        self.refuse(1, self.audit[1] + [[2] * 8])

    def test_a_state_changed(self):
        for t in range(7):
            for state in (-1, 0, 1, 2, 3):
                if state != self.audit[1][0][t]:
                    self.refuse(1, [changed(self.audit[1][0], t, state)])

    def test_a_gain_or_a_head_changed(self):
        gains, heads = self.audit[2]
        for t in range(6):
            for gain in (gains[t] + 1, gains[t] - 1, -1):
                self.refuse(2, (changed(gains, t, gain), heads))
            self.refuse(2, (gains, changed(heads, t, changed(heads[t], 0, heads[t][0] + 1))))
        # Nothing is needed in the last moment, so a gain there adds nothing to the sum, and the paper stays sound.
        self.assertEqual(gains[6], 0)
        self.refuse(2, (changed(gains, 6, -1), heads))
        self.refuse(2, (gains[:-1], heads))
        self.refuse(2, (gains, heads[:-1]))
        self.refuse(2, ((), ()))

    def test_a_drop_left_out_moved_or_doubled(self):
        drops = self.audit[3]
        for at in range(3):
            self.refuse(3, drops[:at] + drops[at + 1:])
            self.refuse(3, drops[:at + 1] + drops[at:])
            u, paper = drops[at]
            for moved in ((u - 1, paper), (u + 1, paper), (-u, paper)):
                self.refuse(3, changed(drops, at, moved))
        self.refuse(3, [])
        self.refuse(3, drops[::-1])
        self.refuse(3, drops + [(6, (4, 4))])
        self.refuse(3, [(2, (0, 0))] + drops)
        self.refuse(3, drops + [(7, (5, 5))])

    def test_a_drop_with_another_paper(self):
        drops = self.audit[3]
        moments = queue_moments(self.record, 0)
        seen = {True: 0, False: 0}
        for at, (u, _) in enumerate(drops):
            for first in range(-2, 8):
                for last in range(-2, 8):
                    right = last == u - 2 and accepts_drop(0, 2, moments, (first, last))
                    seen[right] += 1
                    self.assertIs(self.told(changed(self.audit, 3, changed(drops, at, (u, (first, last))))), right)
        # The greatest first is made, but each other paper is one, too.
        self.assertGreater(seen[True], 3)

    def test_a_right_paper_for_another_moment(self):
        drops = self.audit[3]
        self.refuse(3, [(u, drops[0][1]) for u, _ in drops])
        self.refuse(3, [(u, drops[2][1]) for u, _ in drops])

    def test_a_record_that_is_not_accepted(self):
        for t in range(7):
            for k in (0, 1):
                deed = self.record[t][k]
                for at in (0, 4, 5, 6, 12):
                    wrong = changed(self.record, t, changed(self.record[t], k, changed(deed, at, deed[at] + 1)))
                    self.assertIs(self.told(self.audit, record=wrong), False)
                    self.assertIs(self.told(make_audit(SETTING, wrong, 0), record=wrong), False)
        for wrong in ([], self.record[:-1], self.record + self.record[-1:], [[]], [[]] * 7):
            self.assertIs(self.told(self.audit, record=wrong), False)

    def test_what_an_accepted_record_implies_is_asked_all_the_same(self):
        one = SETTING[1][0]
        self.assertTrue(accepts_spent(one, self.record, 0, self.audit))
        for budget, right in ((self.audit[0], True), (self.audit[0] - 1, False), (0, False)):
            self.assertIs(accepts_spent(changed(one, 6, budget), self.record, 0, self.audit), right)
        cost = plan_cost(PLAIN, *history(self.record, 0)[::2], self.audit[1])
        for spent, right in ((2 * cost, True), (2 * cost + 1, False)):
            last = changed(self.record[6][0], 12, self.record[6][0][12] + spent - self.audit[0])
            record = changed(self.record, 6, changed(self.record[6], 0, last))
            self.assertIs(accepts_spent(one, record, 0, changed(self.audit, 0, spent)), right)
        self.assertEqual(max(sum(deed[6] for deed in deeds) for deeds in self.record), 2)
        self.assertEqual([keeps_quota(quota, self.record) for quota in (0, 1, 2, 9)], [False, False, True, True])
        self.assertTrue(keeps_quota(0, []))

    def test_the_audit_of_every_house(self):
        chance = random.Random(72)
        for _ in range(150):
            setting, ledger = random_house(chance)
            record = restart(setting, ledger).record()
            for k, one in enumerate(setting[1]):
                audit = make_audit(setting, record, k)
                self.assertIs(accepts_audit(setting, ledger, record, k, audit), True)
                self.assertLessEqual(audit[0], one[6])
                self.assertLessEqual(audit[0], 2 * plan_cost(one[7:], *history(record, k)[::2], audit[1]))
                self.assertFalse(accepts_audit(setting, ledger, record, k, changed(audit, 0, audit[0] + 1)))

    def test_500_moments_are_quick(self):
        chance = random.Random(720)
        services = [service(name, 1, 0, 2, 1, 40, 1000000, tariff) for name, tariff in zip(
            NAMES, [FOUR_RATES, PLAIN, ONE_RATE, ((1,), (0, 1)), ((4, 3, 2, 1), (0, 10, 25, 60, 100)), PLAIN])]
        setting = house_of(*services)
        ledger = [[(chance.randint(1, 3), chance.randint(0, 60), False) for _ in NAMES] for _ in range(500)]
        record = restart(setting, ledger).record()
        start = time.perf_counter()
        for k in range(6):
            self.assertTrue(accepts_audit(setting, ledger, record, k, make_audit(setting, record, k)))
        self.assertLess(time.perf_counter() - start, 20)


class NothingIsShared(unittest.TestCase):
    def test_arguments_and_answers(self):
        record = restart(SETTING, LEDGER).record()
        audit = make_audit(SETTING, record, 0)
        kept = copy.deepcopy((record, audit))
        accepts_audit(SETTING, LEDGER, record, 0, audit)
        self.assertEqual((record, audit), kept)
        audit[1][0].append(7)
        audit[1].append([])
        audit[3].append(7)
        self.assertEqual(record, kept[0])
        self.assertEqual(make_audit(SETTING, record, 0), kept[1])


if __name__ == "__main__":
    unittest.main()
