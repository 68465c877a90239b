"""Time-out rules, which keep a lane hot for a while and then turn it off."""

from ebbkeep.costs import cost_by
from ebbkeep.tariffs import HOT, off


def timeout_cost(tariff, prices, needs, breaks, limit):
    """Return the cost of a run by the time-out rule with this limit."""
    return cost_by(tariff, prices, needs, breaks, lambda total: HOT if total <= limit else off(tariff))


def told_row(limit, gaps):
    """Return the tuple (prices, needs) of a run in which each gap ends just when the rule has gone off."""
    needs = [1] + ([0] * (limit + 1) + [1]) * gaps
    return ([1] * len(needs), needs)
