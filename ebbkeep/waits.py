"""How long the jobs of a queue waited before they ran."""

from ebbkeep.queues import split_rows


def waits(lag, patience, moments):
    """Return the list of tuples (wait, count) that the moments of a queue tell."""
    found = [0] * (patience + 1)
    rows = []
    for now, (came, _, run, dropped) in enumerate(moments):
        front, behind = split_rows(rows + [(now, came)], run)
        for at, jobs in front:
            found[now - at] = found[now - at] + jobs
        rows = split_rows(behind, dropped)[1]
    return [(wait, found[wait]) for wait in range(lag, patience + 1) if found[wait] > 0]
