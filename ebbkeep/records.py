"""Records of houses: which one is accepted, and what one tells of a service."""

from ebbkeep.deeds import CAME, DROPPED, DUE, IS_BREAK, NEED, PRICE, RUN, column
from ebbkeep.house import restart


def accepts_record(setting, ledger, record):
    """Tell whether the record is that of a house with this setting and this ledger."""
    # What is asked of a deed leaves one value for each of its parts, moment by moment: the given numbers
    # that are accepted as shares are the shares, and all else follows from the moments before.
    return record == restart(setting, ledger).record()


def history(record, k):
    """Return the tuple (prices, needs, breaks) of the service with the index k."""
    breaks = [t for t, is_break in enumerate(column(record, k, IS_BREAK)) if is_break]
    return (column(record, k, PRICE), column(record, k, NEED), breaks)


def queue_moments(record, k):
    """Return the list of the moments of the queue of the service with the index k."""
    return [(deeds[k][CAME], deeds[k][DUE], deeds[k][RUN], deeds[k][DROPPED]) for deeds in record]
