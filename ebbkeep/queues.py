"""Queues of jobs, their moments, and papers for dropped jobs."""

from ebbkeep.errors import NotFound


def split_rows(rows, count):
    """Return the rows of the first jobs, as many as count says, and the rows of all others behind them.

    A row without jobs is in neither of the two.
    """
    front = []
    behind = []
    wanted = count
    for came, jobs in rows:
        taken = min(jobs, wanted)
        wanted = wanted - taken
        if taken > 0:
            front.append((came, taken))
        if jobs > taken:
            behind.append((came, jobs - taken))
    return (front, behind)


class Queue:
    """The jobs of a service that came and have neither run nor been dropped."""

    def __init__(self, lag, patience):
        self._lag = lag
        self._patience = patience
        self._rows = []
        self._now = 0

    def rows(self):
        """Return the list of tuples (came, count) in ascending order of the moments."""
        return list(self._rows)

    def now(self):
        """Return the moment that comes next."""
        return self._now

    def due(self, came):
        """Return how many jobs are due in the next moment if so many come in it."""
        waiting = sum([count for at, count in self._rows if at + self._lag <= self._now])
        if self._lag == 0:
            return waiting + came
        return waiting

    def step(self, came, places):
        """Go through one moment; return its tuple (came, due, run, dropped)."""
        due = self.due(came)
        run = min(due, places)
        left = split_rows(self._rows + [(self._now, came)], run)[1]
        # The rows that stay are those that may still run in a later moment.
        self._rows = [(at, count) for at, count in left if at + self._patience > self._now]
        dropped = sum([count for at, count in left if at + self._patience <= self._now])
        self._now = self._now + 1
        return (came, due, run, dropped)


def from_rows(lag, patience, now, rows):
    """Return a queue with these rows whose next moment is now."""
    queue = Queue(lag, patience)
    queue._now = now
    queue._rows = list(rows)
    return queue


def is_full(moment):
    """Tell whether fewer jobs ran in the moment than were due."""
    return moment[2] < moment[1]


def sum_of_came(moments):
    """Return how many jobs came in these moments."""
    return sum([moment[0] for moment in moments])


def sum_of_run(moments):
    """Return how many jobs ran in these moments."""
    return sum([moment[2] for moment in moments])


def accepts_drop(lag, patience, moments, paper):
    """Tell whether the tuple (first, last) is a paper for a dropped job in these moments."""
    first, last = paper
    if first < 0 or first > last or last + patience >= len(moments):
        return False
    arrivals = moments[first:last + 1]
    window = moments[first + lag:last + patience + 1]
    return all([is_full(moment) for moment in window]) and sum_of_came(arrivals) > sum_of_run(window)


def make_drop(lag, patience, moments, u):
    """Return the paper with the greatest first for the jobs that were dropped behind the moment u."""
    if u < 0 or u >= len(moments) or moments[u][3] == 0:
        raise NotFound()
    last = u - patience
    excess = -sum_of_run(moments[last + lag + 1:u + 1])
    # That all moments of the window are full needs no test: in one that is not full all due jobs run,
    # so only later jobs run behind it, and the excess is above 0 before first reaches back to it.
    for first in reversed(range(last + 1)):
        excess = excess + moments[first][0] - moments[first + lag][2]
        if excess > 0:
            return (first, last)
    raise NotFound()
