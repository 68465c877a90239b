"""Tariffs: what the machines of a pool cost."""

from ebbkeep.errors import InvalidTariff

HOT = 0


def is_tariff(tariff):
    """Tell whether the tuple of two tuples of integers is a tariff."""
    rates, wakes = tariff
    return (
        1 <= len(rates) <= 4
        and len(wakes) == len(rates) + 1
        and wakes[0] == 0
        and all([1 <= number <= 10000 for number in rates])
        and all([0 <= number <= 10000 for number in wakes])
        and all([warm > cold for warm, cold in zip(rates, rates[1:])])
        and all([warm < cold for warm, cold in zip(wakes, wakes[1:])])
    )


def check_tariff(tariff):
    """Raise InvalidTariff if the tuple of two tuples of integers is not a tariff."""
    if not is_tariff(tariff):
        raise InvalidTariff()


def off(tariff):
    """Return the number of the state off."""
    return len(tariff[0])


def rate(tariff, state):
    """Return what a machine in this state costs in a moment with the price 1."""
    if state == off(tariff):
        return 0
    return tariff[0][state]


def wake(tariff, state):
    """Return what going from this state to hot costs."""
    return tariff[1][state]


def cost_in(tariff, state, total):
    """Return what being in this state for the total and then waking costs."""
    return rate(tariff, state) * total + wake(tariff, state)


def idle_cost(tariff, total):
    """Return the least cost of a gap with this total."""
    return min([cost_in(tariff, state, total) for state in range(off(tariff) + 1)])


def idle_state(tariff, total):
    """Return the first state that costs least in a gap with this total."""
    costs = [cost_in(tariff, state, total) for state in range(off(tariff) + 1)]
    return costs.index(min(costs))


def step_cost(tariff, before, after):
    """Return what going from one state to another costs, or None if it is not possible."""
    if after >= before:
        return 0
    if after == HOT:
        return wake(tariff, before)
    return None


def off_before(breaks, length):
    """Tell for each of the moments of a run whether every machine is off before it."""
    broken = set(breaks)
    return [t == 0 or t - 1 in broken for t in range(length)]
