"""The works of a lane, and what the cheapest plan costs, moment by moment."""

from ebbkeep.plans import least_work, works_after, works_after_break, works_before
from ebbkeep.tariffs import HOT, idle_cost, off, rate, wake


class Works:
    """For each state the least cost of a lane that ends in it, or None if it cannot."""

    def __init__(self, tariff):
        self._tariff = tariff
        self._works = tuple(works_before(tariff))

    def step(self, price, is_needed):
        """Let a moment go by; return the tuple of the works."""
        works = works_after(self._tariff, self._works, price)
        if is_needed:
            works = [work if state == HOT else None for state, work in enumerate(works)]
        self._works = tuple(works)
        return self._works

    def end_break(self):
        """Do a break; return the tuple of the works."""
        self._works = tuple(works_after_break(self._works))
        return self._works

    def least(self):
        """Return the least work that is not None."""
        return least_work(self._works)


class LookingBack:
    """What the cheapest plan costs for everything that was told so far."""

    def __init__(self, tariff):
        self._tariff = tariff
        self._cost = 0
        # The total since the last need of each lane that was needed since the latest break. These are always
        # the first lanes of all, and the others are off.
        self._totals = []

    def _step_cost(self, price, need):
        """Return what the cheapest plan costs more if such a moment comes."""
        hot = rate(self._tariff, HOT) * price * need
        woken = wake(self._tariff, off(self._tariff)) * max(0, need - len(self._totals))
        return hot + woken + sum([idle_cost(self._tariff, total) for total in self._totals[:need]])

    def step(self, price, need):
        """Let a moment go by; return the cost so far."""
        self._cost = self._cost + self._step_cost(price, need)
        self._totals = [0] * need + [total + price for total in self._totals[need:]]
        return self._cost

    def end_break(self):
        """Do a break."""
        self._totals = []

    def cost(self):
        """Return the cost so far."""
        return self._cost
