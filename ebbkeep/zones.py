"""Spreading machines over zones."""


def spread(before, machines):
    """Return how many of the machines each zone has, with as few started anew as any spread allows."""
    each, more = divmod(machines, len(before))
    order = sorted([(-count, zone) for zone, count in enumerate(before)])
    after = [each] * len(before)
    for _, zone in order[:more]:
        after[zone] = each + 1
    return after


def started(before, after):
    """Return how many machines are started anew."""
    return sum([max(0, new - old) for old, new in zip(before, after)])
