"""Audits: what a service spent, with papers which show that it was not too much and why jobs were dropped."""

from ebbkeep.deeds import COST, DROPPED, GIVEN, column
from ebbkeep.papers import accepts, make
from ebbkeep.plans import cheapest, plan_cost
from ebbkeep.queues import accepts_drop, make_drop
from ebbkeep.records import accepts_record, history, queue_moments
from ebbkeep.settings import BUDGET, LAG, PATIENCE, tariff_of


def moments_with_drops(record, k):
    """Return the list of the moments behind which the service with the index k dropped jobs."""
    return [u for u, dropped in enumerate(column(record, k, DROPPED)) if dropped > 0]


def make_audit(setting, record, k):
    """Return the audit (spent, plan, paper, drops) of the service with the index k."""
    service = setting[1][k]
    tariff = tariff_of(service)
    prices, needs, breaks = history(record, k)
    moments = queue_moments(record, k)
    drops = [(u, make_drop(service[LAG], service[PATIENCE], moments, u)) for u in moments_with_drops(record, k)]
    spent = sum(column(record, k, COST))
    return (spent, cheapest(tariff, prices, needs, breaks), make(tariff, prices, needs, breaks), drops)


def accepts_spent(service, record, k, audit):
    """Tell whether the audit shows what the service spent, and that this is not too much."""
    spent, plan, paper, _ = audit
    tariff = tariff_of(service)
    prices, needs, breaks = history(record, k)
    return (
        spent == sum(column(record, k, COST))
        and spent <= service[BUDGET]
        and accepts(tariff, prices, needs, breaks, plan, paper)
        and spent <= 2 * plan_cost(tariff, prices, breaks, plan)
    )


def accepts_drops(service, record, k, drops):
    """Tell whether there is a paper for each moment behind which the service dropped jobs."""
    moments = queue_moments(record, k)
    return [u for u, _ in drops] == moments_with_drops(record, k) and all([
        paper[1] + service[PATIENCE] == u and accepts_drop(service[LAG], service[PATIENCE], moments, paper)
        for u, paper in drops
    ])


def keeps_quota(quota, record):
    """Tell whether in no moment more machines than the quota were given."""
    return all([sum([deed[GIVEN] for deed in deeds]) <= quota for deeds in record])


def accepts_audit(setting, ledger, record, k, audit):
    """Tell whether the audit shows that the house did right by the service with the index k."""
    service = setting[1][k]
    return (
        accepts_record(setting, ledger, record)
        and accepts_spent(service, record, k, audit)
        and accepts_drops(service, record, k, audit[3])
        and keeps_quota(setting[0], record)
    )
