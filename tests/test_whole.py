"""Point 1 for every function of the interface, and one house from its text to its audits."""

import copy
import importlib
import random
import unittest

from cases import ONE_RATE, PLAIN
from ebbkeep.audits import accepts_audit, make_audit
from ebbkeep.choices import choice_paper
from ebbkeep.errors import EbbError
from ebbkeep.house import House, restart
from ebbkeep.lanes import Pool, from_parts
from ebbkeep.ledgers import read_ledger, write_ledger
from ebbkeep.papers import make
from ebbkeep.plans import cheapest
from ebbkeep.pooling import parts_of_cost, parts_paper
from ebbkeep.queues import Queue
from ebbkeep.records import accepts_record
from ebbkeep.reports import report
from ebbkeep.settings import read_house, write_house
from ebbkeep.snapshots import read_snapshot, write_snapshot
from ebbkeep.tellings import read_record, write_record
from ebbkeep.works import LookingBack, Works
from test_interface import FUNCTIONS

TEXT = (
    "quota 9\n"
    "service web room 4 lag 0 patience 3 weight 2 most 6 budget 5000 rates 9 2 wakes 0 5 30\n"
    "service mail room 8 lag 1 patience 10 weight 1 most 1 budget 900 rates 7 wakes 0 20\n"
    "keep web 2 from 8 to 18 every 24"
)
LEDGER_TEXT = "5 12, 7 40\n5 30 break, 7 0\n1 0, 2 0\n1 0, 2 9 break"

SETTING = read_house(TEXT)
LEDGER = read_ledger(LEDGER_TEXT, 2)
RECORD = restart(SETTING, LEDGER).record()
RUN = (PLAIN, [5, 1, 11, 1], [2, 1, 0, 1], [2])
ROWS = [[1, 1, 0, 0], [1, 0, 0, 1]]
MOMENTS = [(2, 2, 1, 0), (3, 4, 1, 0), (0, 3, 1, 2)]
LOAD = [(0, 20, ("ramp", 3, 40)), (5, 9, ("flat", 7))]
DEED_LINE = "5 12 stay 12 3 3 3 12 0 all 3 00011 98"

# For each function lists of arguments with which it returns something or raises one of its errors.
CALLS = {
    "settings.check_service": [[SETTING[1][0]], [("",) + SETTING[1][0][1:]]],
    "settings.check_house": [[SETTING], [(9, (), ())]],
    "settings.write_house": [[SETTING]],
    "settings.read_house": [[TEXT], ["quota 9"]],
    "queues.is_full": [[(3, 3, 2, 0)]],
    "queues.accepts_drop": [[0, 1, MOMENTS, (1, 1)], [0, 1, MOMENTS, (0, 5)]],
    "queues.make_drop": [[0, 1, MOMENTS, 2], [0, 1, MOMENTS, 0]],
    "packing.first_fit": [[8, [4, 1, 8, 2, 4, 4]]],
    "packing.accepts_packing": [[8, [4, 4, 8], [[2], [0, 1]]], [8, [4, 4], [[0]]]],
    "shares.shares": [[9, [6, 4], [2, 1]]],
    "shares.accepts_shares": [[9, [6, 4], [2, 1], [6, 3]]],
    "loads.check_load": [[LOAD], [[(3, 3, ("flat", 1))]]],
    "loads.count_at": [[LOAD, 5]],
    "loads.counts": [[LOAD, 9]],
    "loads.write_load": [[LOAD]],
    "loads.read_load": [["0 20 ramp 3 40\n5 9 flat 7"], ["x"], [""]],
    "windows.window_need": [[4, 0, 3, [2, 4, 7, 19], (0, 3)]],
    "windows.least_machines": [[4, 0, 3, [2, 4, 7, 19]]],
    "windows.drops": [[4, 0, 3, [2, 4, 7, 19], 1]],
    "waits.waits": [[0, 1, MOMENTS]],
    "lazy.lazy_runs": [[4, 0, 3, [2, 4, 7, 19]]],
    "lazy.lazy_total": [[[(1, 2), (3, 4)]]],
    "tariffs.check_tariff": [[PLAIN], [((), (0,))]],
    "tariffs.off": [[PLAIN]],
    "tariffs.rate": [[PLAIN, 1]],
    "tariffs.wake": [[PLAIN, 1]],
    "tariffs.idle_cost": [[PLAIN, 9]],
    "tariffs.idle_state": [[PLAIN, 9]],
    "tariffs.step_cost": [[PLAIN, 2, 0], [PLAIN, 2, 1]],
    "zones.spread": [[[3, 1, 2], 8]],
    "zones.started": [[[3, 1, 2], [3, 3, 2]]],
    "lanes.from_parts": [[PLAIN, (((0, 0, 0), (1, 5, 10)) + ((2, 0, 0),) * 38, 9)]],
    "costs.run_cost": [RUN],
    "costs.run_rows": [RUN],
    "plans.cheapest": [RUN],
    "plans.fits": [[*RUN, cheapest(*RUN)]],
    "plans.plan_cost": [[PLAIN, RUN[1], RUN[3], cheapest(*RUN)]],
    "papers.make": [RUN],
    "papers.is_sound": [[PLAIN, RUN[1], RUN[3], make(*RUN)]],
    "papers.accepts": [[*RUN, cheapest(*RUN), make(*RUN)]],
    "forecasts.forecast_cost": [[PLAIN, 9, 12]],
    "timeouts.timeout_cost": [[*RUN, 3]],
    "timeouts.told_row": [[2, 3]],
    "choices.choose": [[[PLAIN, ONE_RATE], *RUN[1:]]],
    "choices.choice_paper": [[[PLAIN, ONE_RATE], *RUN[1:]]],
    "choices.accepts_choice": [[[PLAIN, ONE_RATE], *RUN[1:], 0, choice_paper([PLAIN, ONE_RATE], *RUN[1:])]],
    "pooling.pooled": [[ROWS], [[[1, 2]]]],
    "pooling.parts_of_cost": [[PLAIN, RUN[1], ROWS, RUN[3]]],
    "pooling.parts_paper": [[PLAIN, RUN[1], ROWS, RUN[3]]],
    "pooling.accepts_parts": [[PLAIN, RUN[1], ROWS, RUN[3], parts_of_cost(PLAIN, RUN[1], ROWS, RUN[3]),
                               parts_paper(PLAIN, RUN[1], ROWS, RUN[3])]],
    "trust.trusting_state": [[PLAIN, 9, 3, True]],
    "trust.gap_cost": [[PLAIN, [3, 1, 4], 3, False]],
    "trust.trusting_cost": [[*RUN, 3, [True, False, True, False]]],
    "limits.write_limits": [[(12, 40)]],
    "limits.read_limits": [["hot 12 asleep 40 off"], ["hot"]],
    "limits.limit_state": [[(12, 40), 13]],
    "limits.rule_limits": [[PLAIN]],
    "limits.limits_cost": [[*RUN, (3, 9)]],
    "limits.sweep": [[*RUN, [(3, 9), (0, 12)]]],
    "budgets.limit": [[Pool(PLAIN), 5, 40, 900]],
    "house.wanted": [[9, 4, 6]],
    "house.reason": [[9, 8, 3, 2, 2]],
    "house.restart": [[SETTING, LEDGER], [SETTING, [[(0, 0, False)]]], [(9, (), ()), []]],
    "ledgers.write_ledger": [[LEDGER]],
    "ledgers.read_ledger": [[LEDGER_TEXT, 2], [LEDGER_TEXT, 1], ["", 3]],
    "records.accepts_record": [[SETTING, LEDGER, RECORD], [SETTING, LEDGER, RECORD[1:]]],
    "records.history": [[RECORD, 0]],
    "records.queue_moments": [[RECORD, 1]],
    "audits.make_audit": [[SETTING, RECORD, 0], [SETTING, RECORD, 1]],
    "audits.accepts_audit": [[SETTING, LEDGER, RECORD, 1, make_audit(SETTING, RECORD, 1)]],
    "snapshots.write_snapshot": [[restart(SETTING, LEDGER)]],
    "snapshots.read_snapshot": [[SETTING, write_snapshot(restart(SETTING, LEDGER))], [SETTING, "now"]],
    "reports.report": [[SETTING, RECORD, 0], [SETTING, RECORD, 1]],
    "tellings.write_record": [[SETTING, RECORD]],
    "tellings.read_record": [[SETTING, DEED_LINE + "\n" + DEED_LINE.replace("00011", "0")], [SETTING, DEED_LINE], [SETTING, ""]],
    "advice.least_budget": [[SETTING, LEDGER, 0]],
    "advice.spare_budget": [[SETTING, LEDGER, 1]],
    "advice.machines_for": [[SETTING, LEDGER, 0]],
}


def view(value):
    """Return what there is to see of a value: for a pool or a house what its methods tell."""
    if isinstance(value, Pool):
        return (value.tariff, value.parts(), value.states(), value.spent(), value.reserve())
    if isinstance(value, House):
        each = range(len(value.setting()[1]))
        return (value.setting(), value.record(), value.ledger(), value.now(), [value.queue_rows(k) for k in each],
                [value.pool_parts(k) for k in each])
    if isinstance(value, (list, tuple)):
        return type(value)([view(part) for part in value])
    return value


def lists_in(value):
    """Return all lists and dicts at and below a value."""
    if isinstance(value, tuple):
        return [found for part in value for found in lists_in(part)]
    if isinstance(value, list):
        return [value] + [found for part in value for found in lists_in(part)]
    return [value] if isinstance(value, dict) else []


def spoil(value):
    for found in lists_in(value):
        found.clear()


def told(function, arguments):
    try:
        return function(*arguments)
    except EbbError as error:
        return type(error)


def loaded(name):
    module, function = name.split(".")
    return getattr(importlib.import_module("ebbkeep." + module), function)


class EveryFunction(unittest.TestCase):
    def test_each_one_is_called(self):
        names = [f"{module}.{heading.split('(')[0]}" for module, headings in FUNCTIONS.items() for heading in headings]
        self.assertEqual(sorted(names), sorted(CALLS))

    def test_arguments_stay_and_answers_are_shared_with_nothing(self):
        for name, calls in CALLS.items():
            function = loaded(name)
            for arguments in calls:
                kept = view(copy.deepcopy(list(arguments)))
                first, second = told(function, arguments), told(function, arguments)
                expected = copy.deepcopy(view(second))
                self.assertEqual(view(first), expected, name)
                self.assertEqual(view(list(arguments)), kept, name)
                held = {id(found) for found in lists_in(tuple(arguments))}
                mine = {id(found) for found in lists_in(first)}
                theirs = {id(found) for found in lists_in(second)}
                self.assertFalse(mine & (held | theirs), name)
                spoil(first)
                self.assertEqual(view(second), expected, name)
                self.assertEqual(view(list(arguments)), kept, name)
                self.assertEqual(view(told(function, arguments)), expected, name)

    def test_answers_stay_when_arguments_change(self):
        for name, calls in CALLS.items():
            for arguments in calls:
                given = copy.deepcopy(list(arguments))
                answer = told(loaded(name), given)
                expected = copy.deepcopy(view(answer))
                spoil(tuple(given))
                self.assertEqual(view(answer), expected, name)


class EveryObject(unittest.TestCase):
    def test_answers_of_methods_are_shared_with_nothing(self):
        queue, pool, works, looking, house = Queue(0, 3), Pool(PLAIN), Works(PLAIN), LookingBack(PLAIN), House(SETTING)
        steps = [
            lambda: queue.step(5, 2), lambda: pool.step(2, 3), lambda: works.step(2, True), lambda: looking.step(2, 3),
            lambda: house.moment(LEDGER[0]), pool.end_break, works.end_break, looking.end_break,
        ]
        questions = [
            queue.rows, queue.now, lambda: queue.due(3), pool.states, pool.parts, pool.spent, pool.reserve,
            lambda: pool.after(3, 1), works.least, looking.cost, house.setting, house.record, house.ledger, house.now,
            lambda: house.queue_rows(0), lambda: house.pool_parts(1),
        ]
        for step in steps * 2:
            spoil(step())
            for question in questions:
                answer = question()
                expected = copy.deepcopy(answer)
                spoil(answer)
                self.assertEqual(question(), expected)
        self.assertEqual(house.record(), restart(SETTING, [LEDGER[0]] * 2).record())
        self.assertEqual((queue.now(), queue.rows()), (2, [(0, 1), (1, 5)]))

    def test_a_pool_from_parts_goes_on_alone(self):
        pool = Pool(PLAIN)
        pool.step(5, 2)
        other = from_parts(PLAIN, pool.parts())
        other.step(5, 3)
        self.assertEqual((pool.spent(), pool.states()[2]), (150, 2))


class OneHouse(unittest.TestCase):
    def test_from_its_text_to_its_audits(self):
        self.assertEqual(write_house(SETTING), TEXT)
        house = House(SETTING)
        for entry in LEDGER:
            house.moment(entry)
        self.assertEqual(write_ledger(house.ledger()), LEDGER_TEXT)
        record = read_record(SETTING, write_record(SETTING, house.record()))
        self.assertTrue(accepts_record(SETTING, LEDGER, record))
        for k in (0, 1):
            self.assertTrue(accepts_audit(SETTING, LEDGER, record, k, make_audit(SETTING, record, k)))
            came, run, dropped, waiting, spent, _, _ = report(SETTING, record, k)
            self.assertEqual(came, run + dropped + waiting)
            self.assertEqual(spent, house.pool_parts(k)[1])
        other = read_snapshot(SETTING, write_snapshot(house))
        chance = random.Random(1)
        for _ in range(20):
            entry = [(chance.randint(1, 100), chance.randint(0, 30), False) for _ in range(2)]
            self.assertEqual(other.moment(entry), house.moment(entry))


if __name__ == "__main__":
    unittest.main()
