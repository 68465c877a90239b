"""Papers which show that no plan for a run costs less than the cheapest one."""

from ebbkeep.plans import fits, plan_cost, works_after, works_after_break, works_before
from ebbkeep.tariffs import HOT, idle_cost, off, off_before, rate, wake


def saving(tariff, price, before, behind):
    """Return what a machine saves that is not hot in a moment between two gaps with these totals."""
    gaps = idle_cost(tariff, before) + idle_cost(tariff, behind)
    return rate(tariff, HOT) * price + gaps - idle_cost(tariff, before + price + behind)


def gains_of(tariff, prices, needs, fresh):
    """Return the list of the gains of the moments.

    The moments are taken away one by one, those with the least needs first. The gain of one is what a
    machine saves that is hot in it and in all that are left, when it is taken away.
    """
    # The moments in which a lane is needed are those that are left at some time, so each lane of the
    # cheapest plan gains just what it costs. A moment never saves more for standing among more others,
    # as idle costs grow ever more slowly, so no machine gains more than it costs.
    gains = [0] * len(prices)
    # A gap with this total costs as much as being off, and so does a longer one: thus it stands for a
    # break, and for what lies before the run and behind it.
    away = wake(tariff, off(tariff))
    gaps = [away if is_fresh else 0 for is_fresh in fresh] + [away]
    # The place behind the last moment is also the one before the first moment.
    left = [len(prices)] + list(range(len(prices)))
    right = list(range(1, len(prices) + 1)) + [0]
    order = sorted([(need, t) for t, need in enumerate(needs)])
    for _, t in order:
        if needs[t] > 0:
            gains[t] = saving(tariff, prices[t], gaps[t], gaps[right[t]])
        gaps[right[t]] = gaps[t] + prices[t] + gaps[right[t]]
        right[left[t]] = right[t]
        left[right[t]] = left[t]
    return gains


def net_works(tariff, works, price, gain):
    """Return the least net costs of getting to each state, from those before the moment."""
    behind = works_after(tariff, works, price)
    behind[HOT] = behind[HOT] - gain
    return behind


def make(tariff, prices, needs, breaks):
    """Return a paper that is accepted for the run and its cheapest plan."""
    fresh = off_before(breaks, len(prices))
    gains = gains_of(tariff, prices, needs, fresh)
    heads = []
    works = works_before(tariff)
    for t, price in enumerate(prices):
        if fresh[t]:
            works = works_after_break(works)
        works = net_works(tariff, works, price, gains[t])
        heads.append(tuple([0 if work is None else work for work in works]))
    return (tuple(gains), tuple(heads))


def is_paper(tariff, length, paper):
    """Tell whether the paper has as many gains, heads and states as it must, and no negative gain."""
    gains, heads = paper
    return (
        len(gains) == length
        and len(heads) == length
        and all([gain >= 0 for gain in gains])
        and all([len(row) == off(tariff) + 1 for row in heads])
    )


def keep_to(heads, bounds):
    """Tell whether no head is greater than its bound, and heads without one are 0."""
    return all([head == 0 if bound is None else head <= bound for head, bound in zip(heads, bounds)])


def is_sound(tariff, prices, breaks, paper):
    """Tell whether the paper is sound for a run with these prices and breaks."""
    if not is_paper(tariff, len(prices), paper):
        return False
    gains, heads = paper
    fresh = off_before(breaks, len(prices))
    works = works_before(tariff)
    for t, price in enumerate(prices):
        if fresh[t]:
            works = works_after_break(works)
        bounds = net_works(tariff, works, price, gains[t])
        if not keep_to(heads[t], bounds):
            return False
        works = [None if bound is None else head for head, bound in zip(heads[t], bounds)]
    return all([work is None or work >= 0 for work in works])


def gained(needs, paper):
    """Return the sum of need times gain over all moments."""
    return sum([need * gain for need, gain in zip(needs, paper[0])])


def accepts(tariff, prices, needs, breaks, plan, paper):
    """Tell whether the paper shows that the plan is a cheapest one for the run."""
    return (
        fits(tariff, prices, needs, breaks, plan)
        and is_sound(tariff, prices, breaks, paper)
        and gained(needs, paper) == plan_cost(tariff, prices, breaks, plan)
    )
