"""Limits: up to which total an idle lane stays in each state, and the texts in which limits are written."""

from ebbkeep.costs import cost_by
from ebbkeep.errors import InvalidRow
from ebbkeep.integers import read_numbers
from ebbkeep.tariffs import off, rate, wake

GREATEST = 99999999


def are_limits(numbers):
    """Tell whether integers of at least 0 are limits of 1 to 4 states, none greater than a text may tell."""
    return (
        1 <= len(numbers) <= 4
        and all([number <= GREATEST for number in numbers])
        and all([warm <= cold for warm, cold in zip(numbers, numbers[1:])])
    )


def write_limits(limits):
    """Return the written form of limits."""
    words = []
    for state, number in enumerate(limits):
        words.extend(["hot" if state == 0 else "asleep", str(number)])
    return " ".join(words + ["off"])


def read_limits(text):
    """Return the limits; raise InvalidRow if the text is not the written form of some."""
    numbers = read_numbers(text.split(" ")[1:-1:2])
    if numbers is None or not are_limits(numbers) or write_limits(numbers) != text:
        raise InvalidRow()
    return tuple(numbers)


def limit_state(limits, total):
    """Return the state of an idle lane with this total."""
    for state, number in enumerate(limits):
        if total <= number:
            return state
    return len(limits)


def cheaper_until(tariff, warm, cold):
    """Return the greatest total for which the warm state costs at most as much as the cold one."""
    return (wake(tariff, cold) - wake(tariff, warm)) // (rate(tariff, warm) - rate(tariff, cold))


def cheapest_until(tariff, warm, state):
    """Return the greatest total for which the warm state costs at most as much as all that are colder than state."""
    return min([cheaper_until(tariff, warm, cold) for cold in range(state + 1, off(tariff) + 1)])


def rule_limits(tariff):
    """Return for each state but off the greatest total whose idle state is not a colder one."""
    return tuple([
        max([cheapest_until(tariff, warm, state) for warm in range(state + 1)]) for state in range(off(tariff))
    ])


def limits_cost(tariff, prices, needs, breaks, limits):
    """Return the cost of a run by limits."""
    return cost_by(tariff, prices, needs, breaks, lambda total: limit_state(limits, total))


def sweep(tariff, prices, needs, breaks, rules):
    """Return the index of the first limits with which the run costs least."""
    costs = [limits_cost(tariff, prices, needs, breaks, limits) for limits in rules]
    return costs.index(min(costs))
