"""Plans for runs, the cheapest plan, and the least costs of getting to each state."""

from ebbkeep.tariffs import HOT, idle_state, off, off_before, rate, step_cost


def lane_row(tariff, prices, needed, fresh):
    """Return the row of the cheapest plan for a lane that is needed in some of the moments."""
    row = [off(tariff)] * len(prices)
    last = None
    for t in range(len(prices)):
        if fresh[t]:
            last = None
        if needed[t]:
            row[t] = HOT
            if last is not None:
                state = idle_state(tariff, sum(prices[last + 1:t]))
                row[last + 1:t] = [state] * (t - last - 1)
            last = t
    return row


def cheapest(tariff, prices, needs, breaks):
    """Return the cheapest plan of a run."""
    fresh = off_before(breaks, len(prices))
    greatest = max(needs, default=0)
    return [lane_row(tariff, prices, [need > above for need in needs], fresh) for above in range(greatest)]


def row_cost(tariff, prices, fresh, row):
    """Return what a machine with these states costs, or None if no machine can have them."""
    if len(row) != len(prices):
        return None
    cost = 0
    before = off(tariff)
    for t, state in enumerate(row):
        if not 0 <= state <= off(tariff):
            return None
        if fresh[t]:
            before = off(tariff)
        step = step_cost(tariff, before, state)
        if step is None:
            return None
        cost = cost + step + rate(tariff, state) * prices[t]
        before = state
    return cost


def hot_machines(plan, t):
    """Return how many machines of the plan are hot in a moment."""
    return len([row for row in plan if row[t] == HOT])


def fits(tariff, prices, needs, breaks, plan):
    """Tell whether the plan fits the run."""
    fresh = off_before(breaks, len(prices))
    if None in [row_cost(tariff, prices, fresh, row) for row in plan]:
        return False
    return all([hot_machines(plan, t) >= need for t, need in enumerate(needs)])


def plan_cost(tariff, prices, breaks, plan):
    """Return the cost of a plan that fits some needs."""
    fresh = off_before(breaks, len(prices))
    return sum([row_cost(tariff, prices, fresh, row) for row in plan])


def cheapest_cost(tariff, prices, needs, breaks):
    """Return the cost of the cheapest plan of a run."""
    return plan_cost(tariff, prices, breaks, cheapest(tariff, prices, needs, breaks))


def works_before(tariff):
    """Return for each state the least cost of a machine that ends in it before the moment 0; None if none can."""
    return [None] * off(tariff) + [0]


def works_after(tariff, works, price):
    """Return the least costs behind a moment, from those before it."""
    behind = []
    for state in range(off(tariff) + 1):
        costs = [
            work + step_cost(tariff, before, state)
            for before, work in enumerate(works)
            if work is not None and step_cost(tariff, before, state) is not None
        ]
        least = min(costs, default=None)
        behind.append(None if least is None else least + rate(tariff, state) * price)
    return behind


def least_work(works):
    """Return the least of the costs that are there."""
    return min([work for work in works if work is not None])


def works_after_break(works):
    """Return the least costs behind a break, from those before it."""
    return [None] * (len(works) - 1) + [least_work(works)]
