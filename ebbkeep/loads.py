"""Loads: how many jobs come in each moment, and the texts in which loads are written."""

from ebbkeep.errors import InvalidRow, Malformed
from ebbkeep.integers import read_numbers, write_numbers

# How many integers stand behind the word of each shape.
SHAPES = {"flat": 1, "ramp": 2, "wave": 3, "burst": 2}

MOST_PARTS = 20


def is_shape(shape):
    """Tell whether the tuple of a string and integers is a shape."""
    word, *numbers = shape
    if word not in SHAPES or len(numbers) != SHAPES[word]:
        return False
    if not all([0 <= number <= 1000 for number in numbers]):
        return False
    if word == "wave":
        return numbers[0] <= numbers[1] and numbers[2] >= 2
    if word == "burst":
        return numbers[1] >= 2
    return True


def is_part(part):
    """Tell whether the tuple of two integers and a shape is a part of a load."""
    start, end, shape = part
    return 0 <= start < end <= 10000 and is_shape(shape)


def check_load(parts):
    """Raise InvalidRow if the list is not a load."""
    if len(parts) > MOST_PARTS or not all([is_part(part) for part in parts]):
        raise InvalidRow()


def wave_count(low, high, period, d):
    """Return the count of a wave in the moment d of its period."""
    half = period // 2
    if d < half:
        return low + (high - low) * d // half
    return high - (high - low) * (d - half) // (period - half)


def shape_count(shape, passed, length):
    """Return the count of a shape when so many of the moments of its part have passed."""
    word, *numbers = shape
    if word == "ramp":
        first, last = numbers
        return (last - first) * passed // length + first
    if word == "wave":
        low, high, period = numbers
        return wave_count(low, high, period, passed % period)
    if word == "burst" and passed % numbers[1] != 0:
        return 0
    return numbers[0]


def part_count(part, t):
    """Return the count of a part in a moment, 0 if it is not there."""
    start, end, shape = part
    if start <= t < end:
        return shape_count(shape, t - start, end - start)
    return 0


def count_at(parts, t):
    """Return the count of a load in a moment."""
    return min(1000, sum([part_count(part, t) for part in parts]))


def counts(parts, length):
    """Return the list of the counts of a load in the first moments, as many as length says."""
    return [count_at(parts, t) for t in range(length)]


def write_part(part):
    """Return the line of a part."""
    start, end, shape = part
    return " ".join([str(start), str(end), shape[0]] + write_numbers(shape[1:]))


def write_load(parts):
    """Return the written form of a load."""
    return "\n".join([write_part(part) for part in parts])


def read_part(line):
    """Return the part that is written in the line, or None if there is none."""
    words = line.split(" ")
    times = read_numbers(words[:2])
    numbers = read_numbers(words[3:])
    if len(words) < 3 or times is None or numbers is None:
        return None
    part = (times[0], times[1], (words[2], *numbers))
    if not is_part(part):
        return None
    return part


def read_load(text):
    """Return the load; raise Malformed if the text is not the written form of one."""
    if text == "":
        return []
    parts = []
    for at, line in enumerate(text.split("\n")):
        part = read_part(line)
        if part is None or at >= MOST_PARTS:
            raise Malformed(at)
        parts.append(part)
    return parts
