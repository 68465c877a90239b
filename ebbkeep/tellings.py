"""Records as texts, with one line for each deed."""

from ebbkeep.deeds import REASONS
from ebbkeep.errors import Malformed
from ebbkeep.integers import read_numbers, write_numbers
from ebbkeep.lanes import LANES
from ebbkeep.settings import tariff_of
from ebbkeep.tariffs import off

WORDS = 13

BREAK = "break"
STAY = "stay"

# The word of the states if all lanes are off.
ALL_OFF = "none"


def write_states(tariff, states):
    """Return the word of the states of all lanes."""
    word = "".join(write_numbers(states)).rstrip(str(off(tariff)))
    if word == "":
        return ALL_OFF
    return word


def write_deed(tariff, deed):
    """Return the line of a deed."""
    price, came, is_break, due, want, limit, given, run, dropped, reason, need, states, cost = deed
    words = write_numbers([price, came])
    words.append(BREAK if is_break else STAY)
    words.extend(write_numbers([due, want, limit, given, run, dropped]))
    words.extend([reason, str(need), write_states(tariff, states), str(cost)])
    return " ".join(words)


def write_record(setting, record):
    """Return the written form of a record."""
    tariffs = [tariff_of(service) for service in setting[1]]
    return "\n".join([write_deed(tariff, deed) for deeds in record for tariff, deed in zip(tariffs, deeds)])


def read_states(tariff, word):
    """Return the tuple of the states of all lanes, or None if the word is not the form of one."""
    last = off(tariff)
    if word == ALL_OFF:
        return (last,) * LANES
    states = read_numbers(list(word))
    if states is None or not 1 <= len(states) <= LANES:
        return None
    if max(states) > last or states[-1] == last:
        return None
    return tuple(states + [last] * (LANES - len(states)))


def read_deed(tariff, line):
    """Return the deed, or None if the line is not the written form of one."""
    words = line.split(" ")
    if len(words) != WORDS:
        return None
    end, why = words[2], words[9]
    numbers = read_numbers(words[:2] + words[3:9] + [words[10], words[12]])
    states = read_states(tariff, words[11])
    if end not in (BREAK, STAY) or why not in REASONS or numbers is None or states is None:
        return None
    price, came, due, want, limit, given, run, dropped, need, cost = numbers
    return (price, came, end == BREAK, due, want, limit, given, run, dropped, why, need, states, cost)


def read_record(setting, text):
    """Return the record; raise Malformed if the text is not the written form of one for the setting."""
    if text == "":
        return []
    tariffs = [tariff_of(service) for service in setting[1]]
    lines = text.split("\n")
    record = []
    for at, line in enumerate(lines):
        k = at % len(tariffs)
        deed = read_deed(tariffs[k], line)
        if deed is None:
            raise Malformed(at)
        if k == 0:
            record.append([])
        record[-1].append(deed)
    if len(record[-1]) < len(tariffs):
        raise Malformed(len(lines))
    return record
