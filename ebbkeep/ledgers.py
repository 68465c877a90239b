"""Ledgers as texts: the entries that a house was told."""

from ebbkeep.errors import Malformed
from ebbkeep.house import is_entry
from ebbkeep.integers import read_numbers


def write_told(told):
    """Return the part of a line that tells one service the price, the jobs that came, and whether there is a break."""
    price, came, is_break = told
    if is_break:
        return f"{price} {came} break"
    return f"{price} {came}"


def write_entry(entry):
    """Return the line of an entry."""
    return ", ".join([write_told(told) for told in entry])


def write_ledger(ledger):
    """Return the written form of a ledger."""
    return "\n".join([write_entry(entry) for entry in ledger])


def read_told(text):
    """Return the tuple (price, came, is_break), or None if the part of a line does not tell one."""
    words = text.split(" ")
    numbers = read_numbers(words[:2])
    if len(words) < 2 or numbers is None or words[2:] not in ([], ["break"]):
        return None
    return (*numbers, len(words) == 3)


def read_entry(line, services):
    """Return the entry for that many services, or None if the line is not the written form of one."""
    entry = [read_told(part) for part in line.split(", ")]
    if None in entry or not is_entry(entry, services):
        return None
    return entry


def read_ledger(text, services):
    """Return the ledger; raise Malformed if the text is not the written form of one for that many services."""
    if text == "":
        return []
    ledger = []
    for at, line in enumerate(text.split("\n")):
        entry = read_entry(line, services)
        if entry is None:
            raise Malformed(at)
        ledger.append(entry)
    return ledger
