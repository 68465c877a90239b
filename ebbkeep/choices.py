"""Choosing the tariff whose cheapest plan costs least, and papers which show that the choice is right."""

from ebbkeep.papers import gained, is_sound, make
from ebbkeep.plans import cheapest, cheapest_cost, fits, plan_cost


def choose(tariffs, prices, needs, breaks):
    """Return the index of the first tariff whose cheapest plan costs least."""
    costs = [cheapest_cost(tariff, prices, needs, breaks) for tariff in tariffs]
    return costs.index(min(costs))


def choice_paper(tariffs, prices, needs, breaks):
    """Return the tuple (plan, papers): the plan of the chosen tariff, and a paper for each tariff."""
    chosen = tariffs[choose(tariffs, prices, needs, breaks)]
    plan = cheapest(chosen, prices, needs, breaks)
    return (plan, [make(tariff, prices, needs, breaks) for tariff in tariffs])


def accepts_choice(tariffs, prices, needs, breaks, choice, paper):
    """Tell whether the paper shows that no tariff is better than the chosen one."""
    plan, papers = paper
    if not 0 <= choice < len(tariffs) or len(papers) != len(tariffs):
        return False
    if not fits(tariffs[choice], prices, needs, breaks, plan):
        return False
    if not all([is_sound(tariff, prices, breaks, one) for tariff, one in zip(tariffs, papers)]):
        return False
    cost = plan_cost(tariffs[choice], prices, breaks, plan)
    sums = [gained(needs, one) for one in papers]
    return min(sums) >= cost and all([least > cost for least in sums[:choice]])
