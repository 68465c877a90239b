"""The house: services that share a quota of machines and go through their moments together."""

from ebbkeep.budgets import greatest_need
from ebbkeep.errors import InvalidRow
from ebbkeep.integers import rounded_up
from ebbkeep.lanes import Pool
from ebbkeep.queues import Queue
from ebbkeep.settings import BUDGET, LAG, MOST, NAME, PATIENCE, ROOM, WEIGHT, check_house, tariff_of
from ebbkeep.shares import shares


def is_entry(entry, services):
    """Tell whether the list of tuples of two integers and True or False is an entry for that many services."""
    return len(entry) == services and all([1 <= price <= 100 and 0 <= came <= 1000 for price, came, _ in entry])


def wanted(due, room, most):
    """Return how many machines a service wants for its due jobs."""
    return min(most, rounded_up(due, room))


def reason(due, run, want, limit, given):
    """Return the reason of a service in a moment: why not all due jobs run, or that they all do."""
    if run == due:
        return "all"
    if given < limit:
        return "quota"
    if given == limit and limit < want:
        return "budget"
    return "most"


def kept_at(keeps, t):
    """Return the greatest number among the keeps that hold in a moment, or 0 if none holds."""
    return max([least for _, least, begin, end, period in keeps if begin <= t % period < end], default=0)


class Service:
    """A service of a house, with its keeps, its queue and its pool."""

    def __init__(self, setting, keeps, queue, pool):
        self._setting = setting
        self._keeps = [keep for keep in keeps if keep[0] == setting[NAME]]
        self.queue = queue
        self.pool = pool

    def allowed(self, price, want):
        """Return the limit of the budget for a price and a want."""
        return greatest_need(self.pool, price, want, self._setting[BUDGET])

    def asks(self, price, came):
        """Return the tuple (due, want, limit) for the next moment."""
        due = self.queue.due(came)
        want = wanted(due, self._setting[ROOM], self._setting[MOST])
        return (due, want, self.allowed(price, want))

    def deed(self, told, asked, given):
        """Go through a moment with so many machines given; return the deed."""
        price, came, is_break = told
        due, want, limit = asked
        need = max(given, self.allowed(price, kept_at(self._keeps, self.queue.now())))
        _, _, run, dropped = self.queue.step(came, given * self._setting[ROOM])
        states, cost = self.pool.step(price, need)
        if is_break:
            self.pool.end_break()
        why = reason(due, run, want, limit, given)
        return (price, came, is_break, due, want, limit, given, run, dropped, why, need, states, cost)


def new_service(setting, keeps):
    """Return a service whose queue is empty and whose pool is off."""
    return Service(setting, keeps, Queue(setting[LAG], setting[PATIENCE]), Pool(tariff_of(setting)))


class House:
    """The services of a setting, with the entries that they were told and the deeds that they did."""

    def __init__(self, setting):
        check_house(setting)
        self._setting = setting
        self._services = [new_service(service, setting[2]) for service in setting[1]]
        self._entries = []
        self._deeds = []

    def setting(self):
        """Return the setting."""
        return self._setting

    def record(self):
        """Return the list of the moments, each a list with the deed of each service."""
        return [list(deeds) for deeds in self._deeds]

    def ledger(self):
        """Return the list of the entries."""
        return [list(entry) for entry in self._entries]

    def now(self):
        """Return the number of moments so far."""
        return self._services[0].queue.now()

    def queue_rows(self, k):
        """Return the rows of the queue of a service."""
        return self._services[k].queue.rows()

    def pool_parts(self, k):
        """Return the parts of the pool of a service."""
        return self._services[k].pool.parts()

    def moment(self, entry):
        """Go through a moment; return the list of the deeds. Raise InvalidRow if this is not an entry."""
        if not is_entry(entry, len(self._services)):
            raise InvalidRow()
        asked = [service.asks(price, came) for service, (price, came, _) in zip(self._services, entry)]
        limits = [limit for _, _, limit in asked]
        given = shares(self._setting[0], limits, [service[WEIGHT] for service in self._setting[1]])
        deeds = [service.deed(entry[k], asked[k], given[k]) for k, service in enumerate(self._services)]
        self._entries.append(list(entry))
        self._deeds.append(deeds)
        return list(deeds)


def resumed(setting, queues, pools):
    """Return a house with these queues and pools, which was told nothing yet."""
    house = House(setting)
    house._services = [
        Service(service, setting[2], queue, pool) for service, queue, pool in zip(setting[1], queues, pools)
    ]
    return house


def restart(setting, ledger):
    """Return the house that went through the ledger."""
    house = House(setting)
    for entry in ledger:
        house.moment(entry)
    return house
