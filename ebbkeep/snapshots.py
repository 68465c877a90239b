"""Snapshots: texts that tell where a house stands, and houses that go on from there."""

from ebbkeep.errors import Malformed
from ebbkeep.house import resumed
from ebbkeep.integers import read_number, read_numbers, write_numbers
from ebbkeep.lanes import LANES, from_parts
from ebbkeep.queues import from_rows
from ebbkeep.settings import LAG, PATIENCE, tariff_of
from ebbkeep.tariffs import off


def told_lanes(tariff, lanes):
    """Return the lanes up to the last one that is not off."""
    return lanes[:max([number for number, lane in enumerate(lanes, start=1) if lane[0] != off(tariff)], default=0)]


def write_groups(groups):
    """Return the words of some tuples of integers."""
    return [":".join(write_numbers(group)) for group in groups]


def write_queue(rows):
    """Return the line of a queue."""
    return " ".join(["queue"] + write_groups(rows))


def write_pool(tariff, parts):
    """Return the line of a pool."""
    lanes, spent = parts
    return " ".join(["pool", str(spent)] + write_groups(told_lanes(tariff, lanes)))


def write_snapshot(house):
    """Return the snapshot of a house."""
    lines = [f"now {house.now()}"]
    for k, service in enumerate(house.setting()[1]):
        lines.append(write_queue(house.queue_rows(k)))
        lines.append(write_pool(tariff_of(service), house.pool_parts(k)))
    return "\n".join(lines)


def read_group(word, length):
    """Return the tuple of so many integers, or None if the word is not the form of one."""
    numbers = read_numbers(word.split(":"))
    if numbers is None or len(numbers) != length:
        return None
    return tuple(numbers)


def read_groups(words, length):
    """Return the list of tuples of so many integers, or None if some word is not the form of one."""
    groups = [read_group(word, length) for word in words]
    if None in groups:
        return None
    return groups


def read_now(line):
    """Return the number of moments so far, or None if the line does not tell it."""
    words = line.split(" ")
    if len(words) != 2 or words[0] != "now":
        return None
    return read_number(words[1])


def are_rows(service, now, rows):
    """Tell whether these can be the rows of the queue of a service in front of a moment."""
    # Jobs that may not run in this moment or a later one have been dropped before it.
    return (
        all([came < now <= came + service[PATIENCE] for came, _ in rows])
        and all([count >= 1 for _, count in rows])
        and all([before[0] < behind[0] for before, behind in zip(rows, rows[1:])])
    )


def read_queue(service, now, line):
    """Return the queue of a service, or None if the line does not tell one."""
    words = line.split(" ")
    rows = read_groups(words[1:], 2)
    if words[0] != "queue" or rows is None or not are_rows(service, now, rows):
        return None
    return from_rows(service[LAG], service[PATIENCE], now, rows)


def are_told_lanes(tariff, lanes):
    """Tell whether these are states of lanes, the last of them not off, and lanes that are off have nothing else."""
    last = off(tariff)
    return (
        len(lanes) <= LANES
        and all([lane[0] < last or lane == (last, 0, 0) for lane in lanes])
        and (len(lanes) == 0 or lanes[-1][0] != last)
    )


def read_pool(service, line):
    """Return the pool of a service, or None if the line does not tell one."""
    tariff = tariff_of(service)
    words = line.split(" ")
    spent = read_numbers(words[1:2])
    lanes = read_groups(words[2:], 3)
    if words[0] != "pool" or len(words) < 2 or spent is None or lanes is None or not are_told_lanes(tariff, lanes):
        return None
    rest = [(off(tariff), 0, 0)] * (LANES - len(lanes))
    return from_parts(tariff, (tuple(lanes + rest), spent[0]))


def checked(value, at):
    """Return what was read from a line; raise Malformed with its index if it is None."""
    if value is None:
        raise Malformed(at)
    return value


def read_snapshot(setting, text):
    """Return the house that goes on from the snapshot; raise Malformed if the text is none for the setting."""
    lines = text.split("\n")
    now = checked(read_now(lines[0]), 0)
    if len(lines) != 1 + 2 * len(setting[1]):
        raise Malformed(min(len(lines), 1 + 2 * len(setting[1])))
    queues = []
    pools = []
    for k, service in enumerate(setting[1]):
        queues.append(checked(read_queue(service, now, lines[2 * k + 1]), 2 * k + 1))
        pools.append(checked(read_pool(service, lines[2 * k + 2]), 2 * k + 2))
    return resumed(setting, queues, pools)
