"""The least machines with which no job of a row is dropped, and the windows that show it."""

from ebbkeep.integers import rounded_up
from ebbkeep.queues import Queue


def places_of_one(room, lag, patience, first, last):
    """Return how many jobs that came in the window one machine can run in time."""
    return room * (last - first + 1 + patience - lag)


def window_need(room, lag, patience, counts, window):
    """Return how many machines the window (first, last) needs."""
    first, last = window
    return rounded_up(sum(counts[first:last + 1]), places_of_one(room, lag, patience, first, last))


def least_machines(room, lag, patience, counts):
    """Return the least machines and the first window that needs just so many, or None if no jobs come."""
    machines = 0
    window = None
    for first in range(len(counts)):
        jobs = 0
        for last in range(first, len(counts)):
            jobs = jobs + counts[last]
            places = places_of_one(room, lag, patience, first, last)
            if jobs > machines * places:
                machines = rounded_up(jobs, places)
                window = (first, last)
    return (machines, window)


def drops(room, lag, patience, counts, machines):
    """Return how many jobs of the row are dropped in all with this number of machines."""
    queue = Queue(lag, patience)
    dropped = 0
    # As many moments behind the row as the patience says, the last jobs have run or are dropped.
    for came in counts + [0] * patience:
        dropped = dropped + queue.step(came, machines * room)[3]
    return dropped
