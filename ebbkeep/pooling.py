"""Pooling the machines of several services, and the parts of the cost that each of them pays."""

from ebbkeep.papers import gained, is_sound, make
from ebbkeep.plans import cheapest, cheapest_cost, fits, plan_cost


def pooled(rows):
    """Return the list of the needs of all services together."""
    return [sum(needs) for needs in zip(*rows)]


def parts_of_cost(tariff, prices, rows, breaks):
    """Return the list of what each service pays: what the pool costs more with it than with those before it."""
    parts = []
    before = 0
    for k in range(len(rows)):
        cost = cheapest_cost(tariff, prices, pooled(rows[:k + 1]), breaks)
        parts.append(cost - before)
        before = cost
    return parts


def parts_paper(tariff, prices, rows, breaks):
    """Return the tuple (plan, papers): the cheapest plan of the pool, and a paper for each service."""
    plan = cheapest(tariff, prices, pooled(rows), breaks)
    return (plan, [make(tariff, prices, needs, breaks) for needs in rows])


def accepts_parts(tariff, prices, rows, breaks, parts, paper):
    """Tell whether the paper shows that the parts pay for the pool and that nobody pays too much."""
    plan, papers = paper
    if len(parts) != len(rows) or len(papers) != len(rows):
        return False
    if not all([is_sound(tariff, prices, breaks, one) for one in papers]):
        return False
    most = [gained(needs, one) for needs, one in zip(rows, papers)]
    return (
        all([0 <= part <= greatest for part, greatest in zip(parts, most)])
        and fits(tariff, prices, pooled(rows), breaks, plan)
        and sum(parts) == plan_cost(tariff, prices, breaks, plan)
    )
