"""Running jobs as late as they can be run."""

from ebbkeep.integers import rounded_up
from ebbkeep.queues import Queue


def forced(queue, patience, came):
    """Return how many jobs must run in the next moment of the queue if so many come in it."""
    arrivals = queue.rows() + [(queue.now(), came)]
    return sum([count for at, count in arrivals if at + patience == queue.now()])


def lazy_runs(room, lag, patience, counts):
    """Return a tuple (machines, run) for each moment of the row and for those of the patience behind it."""
    queue = Queue(lag, patience)
    runs = []
    for came in counts + [0] * patience:
        machines = rounded_up(forced(queue, patience, came), room)
        run = queue.step(came, machines * room)[2]
        runs.append((machines, run))
    return runs


def lazy_total(runs):
    """Return the sum of the machines of all lazy runs."""
    return sum([machines for machines, _ in runs])
