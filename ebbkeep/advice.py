"""Advice: which budget and which machines a service needs for a ledger."""

from ebbkeep.deeds import IS_BREAK, LIMIT, NEED, PRICE
from ebbkeep.house import restart
from ebbkeep.lanes import Pool
from ebbkeep.settings import BUDGET, LAG, MOST_BUDGET, PATIENCE, ROOM, tariff_of
from ebbkeep.windows import least_machines


def with_budget(setting, k, budget):
    """Return the setting in which the service with the index k has this budget."""
    quota, services, keeps = setting
    service = services[k][:BUDGET] + (budget,) + services[k][BUDGET + 1:]
    return (quota, services[:k] + (service,) + services[k + 1:], keeps)


def least_budget(setting, ledger, k):
    """Return the least budget of the service with the index k with which the record is that of the greatest one."""
    record = restart(with_budget(setting, k, MOST_BUDGET), ledger).record()
    pool = Pool(tariff_of(setting[1][k]))
    least = 0
    for deeds in record:
        deed = deeds[k]
        # A need above the limit is the limit for what is kept. So the moment is the same for just those budgets
        # that allow the greater one of the two. If it is 0, this asks for no more than the moments before did.
        least = max(least, sum(pool.after(deed[PRICE], max(deed[LIMIT], deed[NEED]))))
        pool.step(deed[PRICE], deed[NEED])
        if deed[IS_BREAK]:
            pool.end_break()
    return least


def spare_budget(setting, ledger, k):
    """Return by how much the budget of the service with the index k exceeds its least budget, or 0."""
    return max(0, setting[1][k][BUDGET] - least_budget(setting, ledger, k))


def machines_for(setting, ledger, k):
    """Return the tuple (machines, window) for the jobs that came to the service with the index k."""
    service = setting[1][k]
    return least_machines(service[ROOM], service[LAG], service[PATIENCE], [entry[k][1] for entry in ledger])
