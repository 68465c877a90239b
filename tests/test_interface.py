"""The names, arguments and places of the interface."""

import ast
import importlib
import inspect
import os
import unittest

import ebbkeep

FOLDER = os.path.dirname(ebbkeep.__file__)

FUNCTIONS = {
    "settings": ["check_service(setting)", "check_house(setting)", "write_house(setting)", "read_house(text)"],
    "queues": ["is_full(moment)", "accepts_drop(lag, patience, moments, paper)",
               "make_drop(lag, patience, moments, u)"],
    "packing": ["first_fit(box, sizes)", "accepts_packing(box, sizes, boxes)"],
    "shares": ["shares(quota, wants, weights)", "accepts_shares(quota, wants, weights, given)"],
    "loads": ["check_load(parts)", "count_at(parts, t)", "counts(parts, length)", "write_load(parts)",
              "read_load(text)"],
    "windows": ["window_need(room, lag, patience, counts, window)", "least_machines(room, lag, patience, counts)",
                "drops(room, lag, patience, counts, machines)"],
    "waits": ["waits(lag, patience, moments)"],
    "lazy": ["lazy_runs(room, lag, patience, counts)", "lazy_total(runs)"],
    "tariffs": ["check_tariff(tariff)", "off(tariff)", "rate(tariff, state)", "wake(tariff, state)",
                "idle_cost(tariff, total)", "idle_state(tariff, total)", "step_cost(tariff, before, after)"],
    "zones": ["spread(before, machines)", "started(before, after)"],
    "lanes": ["from_parts(tariff, parts)"],
    "costs": ["run_cost(tariff, prices, needs, breaks)", "run_rows(tariff, prices, needs, breaks)"],
    "plans": ["cheapest(tariff, prices, needs, breaks)", "fits(tariff, prices, needs, breaks, plan)",
              "plan_cost(tariff, prices, breaks, plan)"],
    "papers": ["make(tariff, prices, needs, breaks)", "is_sound(tariff, prices, breaks, paper)",
               "accepts(tariff, prices, needs, breaks, plan, paper)"],
    "forecasts": ["forecast_cost(tariff, total, forecast)"],
    "timeouts": ["timeout_cost(tariff, prices, needs, breaks, limit)", "told_row(limit, gaps)"],
    "choices": ["choose(tariffs, prices, needs, breaks)", "choice_paper(tariffs, prices, needs, breaks)",
                "accepts_choice(tariffs, prices, needs, breaks, choice, paper)"],
    "pooling": ["pooled(rows)", "parts_of_cost(tariff, prices, rows, breaks)",
                "parts_paper(tariff, prices, rows, breaks)",
                "accepts_parts(tariff, prices, rows, breaks, parts, paper)"],
    "trust": ["trusting_state(tariff, total, trust, is_long)", "gap_cost(tariff, prices, trust, is_long)",
              "trusting_cost(tariff, prices, needs, breaks, trust, forecasts)"],
    "limits": ["write_limits(limits)", "read_limits(text)", "limit_state(limits, total)", "rule_limits(tariff)",
               "limits_cost(tariff, prices, needs, breaks, limits)", "sweep(tariff, prices, needs, breaks, rules)"],
    "budgets": ["limit(pool, price, want, budget)"],
    "house": ["wanted(due, room, most)", "reason(due, run, want, limit, given)", "restart(setting, ledger)"],
    "ledgers": ["write_ledger(ledger)", "read_ledger(text, services)"],
    "records": ["accepts_record(setting, ledger, record)", "history(record, k)", "queue_moments(record, k)"],
    "audits": ["make_audit(setting, record, k)", "accepts_audit(setting, ledger, record, k, audit)"],
    "snapshots": ["write_snapshot(house)", "read_snapshot(setting, text)"],
    "reports": ["report(setting, record, k)"],
    "tellings": ["write_record(setting, record)", "read_record(setting, text)"],
    "advice": ["least_budget(setting, ledger, k)", "spare_budget(setting, ledger, k)", "machines_for(setting, ledger, k)"],
}

CLASSES = {
    "errors": {"EbbError": [], "Malformed": ["__init__(self, line)"], "InvalidSetting": [], "InvalidTariff": [],
               "InvalidRow": [], "NotFound": []},
    "queues": {"Queue": ["__init__(self, lag, patience)", "rows(self)", "now(self)", "due(self, came)",
                         "step(self, came, places)"]},
    "lanes": {"Pool": ["__init__(self, tariff)", "step(self, price, need)", "end_break(self)", "states(self)",
                       "after(self, price, need)", "spent(self)", "reserve(self)", "parts(self)"]},
    "works": {"Works": ["__init__(self, tariff)", "step(self, price, is_needed)", "end_break(self)", "least(self)"],
              "LookingBack": ["__init__(self, tariff)", "step(self, price, need)", "end_break(self)", "cost(self)"]},
    "house": {"House": ["__init__(self, setting)", "setting(self)", "record(self)", "ledger(self)", "now(self)",
                        "queue_rows(self, k)", "pool_parts(self, k)", "moment(self, entry)"]},
}


def tree_of(module):
    with open(os.path.join(FOLDER, module + ".py"), encoding="utf-8") as file:
        return ast.parse(file.read())


def headings(body):
    """Return name(arguments) of each function that is defined right in these statements."""
    return [f"{node.name}({ast.unparse(node.args)})" for node in body if isinstance(node, ast.FunctionDef)]


class Interface(unittest.TestCase):
    def test_functions_are_defined_where_they_are_listed(self):
        for module, expected in FUNCTIONS.items():
            found = headings(tree_of(module).body)
            for heading in expected:
                self.assertIn(heading, found, module)

    def test_classes_and_their_methods_are_defined_where_they_are_listed(self):
        for module, classes in CLASSES.items():
            bodies = {node.name: node.body for node in tree_of(module).body if isinstance(node, ast.ClassDef)}
            for name, expected in classes.items():
                self.assertIn(name, bodies, module)
                for heading in expected:
                    self.assertIn(heading, headings(bodies[name]), name)

    def test_what_is_imported_is_what_is_defined(self):
        for table in (FUNCTIONS, CLASSES):
            for module, expected in table.items():
                loaded = importlib.import_module("ebbkeep." + module)
                for heading in expected:
                    value = getattr(loaded, heading.split("(")[0])
                    self.assertEqual(value.__module__, "ebbkeep." + module)

    def test_functions_take_their_arguments_by_name(self):
        for module, expected in FUNCTIONS.items():
            loaded = importlib.import_module("ebbkeep." + module)
            for heading in expected:
                name, arguments = heading[:-1].split("(")
                self.assertEqual(list(inspect.signature(getattr(loaded, name)).parameters), arguments.split(", "))


if __name__ == "__main__":
    unittest.main()
