"""The lanes of a pool, and the rule by which a pool goes."""

from ebbkeep.tariffs import HOT, idle_state, off, rate, wake

LANES = 40


def lanes_off(tariff):
    """Return the tuple of the lanes (state, total, cost) of a pool in which all are off."""
    return ((off(tariff), 0, 0),) * LANES


def needed_lane(tariff, lane, price):
    """Return the lane behind a moment in which it was needed, and what it cost in it."""
    paid = rate(tariff, HOT) * price + wake(tariff, lane[0])
    return ((HOT, 0, 0), paid)


def idle_lane(tariff, lane, price, state_of):
    """Return the lane behind a moment in which it was not needed, and what it cost in it."""
    before, so_far, cost = lane
    if before == off(tariff):
        return (lane, 0)
    total = so_far + price
    state = state_of(total)
    if state == off(tariff):
        return ((state, 0, 0), 0)
    paid = rate(tariff, state) * price
    return ((state, total, cost + paid), paid)


def lanes_after(tariff, lanes, price, need, state_of):
    """Return the tuple of the lanes behind a moment, and what they cost in it.

    An idle lane that is not off goes to the state that state_of gives for its total.
    """
    behind = []
    paid = 0
    for number, lane in enumerate(lanes, start=1):
        if number <= need:
            moved, cost = needed_lane(tariff, lane, price)
        else:
            moved, cost = idle_lane(tariff, lane, price, state_of)
        behind.append(moved)
        paid = paid + cost
    return (tuple(behind), paid)


def states_of(lanes):
    """Return the tuple of the states of the lanes."""
    return tuple([state for state, _, _ in lanes])


def reserve_of(tariff, lanes):
    """Return what the lanes may still cost at most if nothing is needed any more."""
    return sum([wake(tariff, off(tariff)) - cost for state, _, cost in lanes if state != off(tariff)])


class Pool:
    """Lanes that go by the rule, and what they have cost."""

    def __init__(self, tariff):
        self.tariff = tariff
        self._lanes = lanes_off(tariff)
        self._spent = 0

    def _next_lanes(self, price, need):
        """Return what lanes_after does for the next moment by the rule."""
        return lanes_after(self.tariff, self._lanes, price, need, lambda total: idle_state(self.tariff, total))

    def step(self, price, need):
        """Let a moment go by; return the tuple (states, cost)."""
        self._lanes, cost = self._next_lanes(price, need)
        self._spent = self._spent + cost
        return (self.states(), cost)

    def end_break(self):
        """Do a break."""
        self._lanes = lanes_off(self.tariff)

    def states(self):
        """Return the tuple of the states of all lanes."""
        return states_of(self._lanes)

    def after(self, price, need):
        """Return the tuple (spent, reserve) as they would be after such a step."""
        lanes, cost = self._next_lanes(price, need)
        return (self._spent + cost, reserve_of(self.tariff, lanes))

    def spent(self):
        """Return the sum of the costs of all steps so far."""
        return self._spent

    def reserve(self):
        """Return what the lanes may still cost at most if nothing is needed any more."""
        return reserve_of(self.tariff, self._lanes)

    def parts(self):
        """Return the tuple (lanes, spent), where each lane is a tuple (state, total, cost)."""
        return (self._lanes, self._spent)


def from_parts(tariff, parts):
    """Return a pool with these parts."""
    pool = Pool(tariff)
    pool._lanes, pool._spent = parts
    return pool
