"""The parts of deeds."""

# Where the parts of a deed stand in it.
PRICE = 0
CAME = 1
IS_BREAK = 2
DUE = 3
LIMIT = 5
GIVEN = 6
RUN = 7
DROPPED = 8
NEED = 10
STATES = 11
COST = 12

REASONS = ("all", "quota", "budget", "most")


def column(record, k, part):
    """Return the list of one part of all deeds of the service with the index k."""
    return [deeds[k][part] for deeds in record]
