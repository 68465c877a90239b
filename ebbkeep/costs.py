"""What runs cost."""

from ebbkeep.lanes import lanes_after, lanes_off, states_of
from ebbkeep.tariffs import idle_state, off_before


def rows_by(tariff, prices, needs, breaks, state_of):
    """Return the tuple (states, cost) of each moment of a run in which an idle lane is in state_of(total)."""
    fresh = off_before(breaks, len(prices))
    lanes = lanes_off(tariff)
    rows = []
    for t, price in enumerate(prices):
        if fresh[t]:
            lanes = lanes_off(tariff)
        lanes, cost = lanes_after(tariff, lanes, price, needs[t], state_of)
        rows.append((states_of(lanes), cost))
    return rows


def cost_by(tariff, prices, needs, breaks, state_of):
    """Return the cost of a run in which an idle lane is in state_of(total)."""
    return sum([cost for _, cost in rows_by(tariff, prices, needs, breaks, state_of)])


def run_cost(tariff, prices, needs, breaks):
    """Return the cost of a run by the rule."""
    return cost_by(tariff, prices, needs, breaks, lambda total: idle_state(tariff, total))


def run_rows(tariff, prices, needs, breaks):
    """Return the tuple (states, cost) of each moment of a run by the rule."""
    return rows_by(tariff, prices, needs, breaks, lambda total: idle_state(tariff, total))
