"""Trust in forecasts that say whether a gap is long or short."""

from ebbkeep.lanes import LANES
from ebbkeep.tariffs import HOT, idle_state, off, off_before, rate, wake


def trusting_state(tariff, total, trust, is_long):
    """Return the state of an idle lane with this total that trusts a long or a short forecast."""
    if is_long:
        return idle_state(tariff, trust * total)
    costs = [rate(tariff, state) * total + trust * wake(tariff, state) for state in range(off(tariff) + 1)]
    return costs.index(min(costs))


def gap_cost(tariff, prices, trust, is_long):
    """Return what a lane pays in a gap with these prices, with the wake at its end."""
    state = HOT
    total = 0
    cost = 0
    for price in prices:
        total = total + price
        # A greater total never has a warmer state, so a lane that is off stays off.
        state = trusting_state(tariff, total, trust, is_long)
        cost = cost + rate(tariff, state) * price
    return cost + wake(tariff, state)


def lane_cost(tariff, prices, needed, fresh, trust, forecasts):
    """Return what a lane costs that is needed in some of the moments."""
    state = off(tariff)
    total = 0
    is_long = None
    cost = 0
    for t, price in enumerate(prices):
        if fresh[t]:
            state = off(tariff)
        if needed[t]:
            cost = cost + wake(tariff, state)
            state = HOT
            total = 0
            is_long = None
        elif state != off(tariff):
            if is_long is None:
                is_long = forecasts[t]
            total = total + price
            state = trusting_state(tariff, total, trust, is_long)
        cost = cost + rate(tariff, state) * price
    return cost


def trusting_cost(tariff, prices, needs, breaks, trust, forecasts):
    """Return the cost of a run in which every idle lane trusts the forecast of the first moment of its gap."""
    fresh = off_before(breaks, len(prices))
    rows = [[need >= lane for need in needs] for lane in range(1, LANES + 1)]
    return sum([lane_cost(tariff, prices, needed, fresh, trust, forecasts) for needed in rows])
