"""Reports: what became of the jobs of a service, and what its machines cost."""

from ebbkeep.deeds import CAME, COST, DROPPED, RUN, STATES, column
from ebbkeep.records import queue_moments
from ebbkeep.settings import LAG, PATIENCE
from ebbkeep.tariffs import HOT
from ebbkeep.waits import waits


def report(setting, record, k):
    """Return the tuple (came, run, dropped, waiting, spent, hot, waits) of the service with the index k."""
    service = setting[1][k]
    came = sum(column(record, k, CAME))
    run = sum(column(record, k, RUN))
    dropped = sum(column(record, k, DROPPED))
    spent = sum(column(record, k, COST))
    hot = sum([states.count(HOT) for states in column(record, k, STATES)])
    waited = waits(service[LAG], service[PATIENCE], queue_moments(record, k))
    return (came, run, dropped, came - run - dropped, spent, hot, waited)
