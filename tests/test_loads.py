"""Points 15 and 16: loads, and loads as texts."""

import fractions
import math
import random
import re
import unittest

from ebbkeep.errors import InvalidRow, Malformed
from ebbkeep.loads import check_load, count_at, counts, read_load, write_load

FLAT = (0, 10, ("flat", 7))
PARTS = [(0, 20, ("ramp", 3, 40)), (5, 9, ("flat", 2)), (0, 10000, ("wave", 1, 9, 24)), (3, 30, ("burst", 50, 7))]
TEXT = "0 20 ramp 3 40\n5 9 flat 2\n0 10000 wave 1 9 24\n3 30 burst 50 7"
RIGHT_SHAPES = [
    ("flat", 0), ("flat", 1000), ("ramp", 0, 0), ("ramp", 1000, 0), ("ramp", 0, 1000), ("ramp", 1000, 1000),
    ("wave", 0, 0, 2), ("wave", 0, 1000, 1000), ("wave", 1000, 1000, 2), ("wave", 4, 4, 3),
    ("burst", 0, 2), ("burst", 1000, 1000), ("burst", 5, 3),
]
WRONG_SHAPES = [
    ("flat",), ("flat", -1), ("flat", 1001), ("flat", 1, 1), ("ramp",), ("ramp", 1), ("ramp", 1, 2, 3),
    ("ramp", -1, 5), ("ramp", 5, -1), ("ramp", 1001, 5), ("ramp", 5, 1001), ("wave",), ("wave", 1, 2),
    ("wave", 1, 2, 3, 4), ("wave", 5, 4, 9), ("wave", -1, 4, 9), ("wave", 0, 1001, 9), ("wave", 1001, 1001, 9),
    ("wave", 0, 4, 1), ("wave", 0, 4, 0), ("wave", 0, 4, -3), ("wave", 0, 4, 1001), ("burst",), ("burst", 5),
    ("burst", 5, 2, 2), ("burst", -1, 2), ("burst", 1001, 2), ("burst", 5, 1), ("burst", 5, 0), ("burst", 5, -2),
    ("burst", 5, 1001), ("",), ("", 5), ("Flat", 5), ("flat ", 5), ("waves", 1, 2, 3), ("flat", 10**30),
    ("step", 5), ("bursts", 5, 2),
]


def slow_count(part, t):
    start, end, (word, *numbers) = part
    if not start <= t < end:
        return 0
    if word == "flat":
        return numbers[0]
    if word == "ramp":
        first, last = numbers
        return first + math.floor(fractions.Fraction((last - first) * (t - start), end - start))
    if word == "wave":
        low, high, period = numbers
        d, half = (t - start) % period, period // 2
        if d < half:
            return low + math.floor(fractions.Fraction((high - low) * d, half))
        return high - math.floor(fractions.Fraction((high - low) * (d - half), period - half))
    return numbers[0] if t in range(start, end, numbers[1]) else 0


def random_part(chance):
    start, end = sorted(chance.sample(range(chance.choice([12, 40, 10001])), 2))
    low, high = sorted([chance.randint(0, 1000), chance.randint(0, 1000)])
    period = chance.choice([2, 3, 4, 5, chance.randint(2, 1000)])
    shape = chance.choice([("flat", low), ("ramp", low, high), ("ramp", high, low), ("wave", low, high, period),
                           ("burst", high, period)])
    return (start, end, shape)


class Check(unittest.TestCase):
    def accept(self, parts):
        self.assertIsNone(check_load(parts))

    def refuse(self, parts):
        with self.assertRaises(InvalidRow):
            check_load(parts)

    def test_number_of_parts(self):
        self.accept([])
        self.accept([FLAT] * 20)
        self.refuse([FLAT] * 21)

    def test_from_and_to(self):
        for start, end in [(0, 1), (0, 10000), (9999, 10000), (5, 6)]:
            self.accept([(start, end, ("flat", 1))])
        for start, end in [(0, 0), (5, 5), (6, 5), (-1, 5), (0, 10001), (10000, 10001), (-5, -3), (10**20, 10**21)]:
            self.refuse([(start, end, ("flat", 1))])

    def test_shapes(self):
        for shape in RIGHT_SHAPES:
            self.accept([(0, 10, shape)])
        for shape in WRONG_SHAPES:
            self.refuse([(0, 10, shape)])

    def test_every_part_is_checked(self):
        for at in range(4):
            self.refuse(PARTS[:at] + [(0, 10, ("flat", 1001))] + PARTS[at:])
        self.accept(PARTS)


class Counts(unittest.TestCase):
    def test_flat_at_its_borders(self):
        self.assertEqual([count_at([(3, 6, ("flat", 7))], t) for t in range(8)], [0, 0, 0, 7, 7, 7, 0, 0])

    def test_ramp_of_the_document(self):
        self.assertEqual(counts([(0, 3, ("ramp", 5, 0))], 4), [5, 3, 1, 0])

    def test_ramps(self):
        self.assertEqual(counts([(2, 6, ("ramp", 0, 8))], 8), [0, 0, 0, 2, 4, 6, 0, 0])
        self.assertEqual(counts([(1, 4, ("ramp", 0, 5))], 5), [0, 0, 1, 3, 0])
        self.assertEqual(counts([(1, 5, ("ramp", 3, 1))], 6), [0, 3, 2, 2, 1, 0])
        self.assertEqual(counts([(0, 1, ("ramp", 9, 4))], 2), [9, 0])
        self.assertEqual(counts([(0, 7, ("ramp", 1, 0))], 8), [1, 0, 0, 0, 0, 0, 0, 0])

    def test_waves(self):
        self.assertEqual(counts([(1, 10, ("wave", 0, 4, 4))], 11), [0, 0, 2, 4, 2, 0, 2, 4, 2, 0, 0])
        self.assertEqual(counts([(0, 11, ("wave", 1, 7, 5))], 12), [1, 4, 7, 5, 3, 1, 4, 7, 5, 3, 1, 0])
        self.assertEqual(counts([(0, 4, ("wave", 2, 9, 2))], 5), [2, 9, 2, 9, 0])
        self.assertEqual(counts([(0, 6, ("wave", 0, 5, 3))], 7), [0, 5, 3, 0, 5, 3, 0])

    def test_bursts(self):
        self.assertEqual(counts([(2, 9, ("burst", 5, 3))], 11), [0, 0, 5, 0, 0, 5, 0, 0, 5, 0, 0])
        self.assertEqual(counts([(2, 8, ("burst", 5, 3))], 10), [0, 0, 5, 0, 0, 5, 0, 0, 0, 0])

    def test_each_shape_around_its_moments(self):
        for shape in RIGHT_SHAPES:
            part = (4, 11, shape)
            self.assertEqual([count_at([part], t) for t in (0, 3, 11, 12, 10**30)], [0] * 5, shape)
            for t in (4, 5, 9, 10):
                self.assertEqual(count_at([part], t), slow_count(part, t), (shape, t))

    def test_sums_and_their_limit(self):
        parts = [(0, 5, ("flat", 400)), (2, 7, ("flat", 599)), (4, 9, ("flat", 1)), (4, 5, ("flat", 1))]
        self.assertEqual(counts(parts, 10), [400, 400, 999, 999, 1000, 600, 600, 1, 1, 0])
        self.assertEqual(counts([(0, 1, ("flat", 1000))] * 20, 1), [1000])
        self.assertEqual(counts([(0, 1, ("flat", 500)), (0, 1, ("flat", 500))], 1), [1000])
        self.assertEqual(counts([(0, 1, ("flat", 500)), (0, 1, ("flat", 501))], 1), [1000])

    def test_empty_load_and_no_moments(self):
        self.assertEqual(counts([], 3), [0, 0, 0])
        self.assertEqual(counts(PARTS, 0), [])
        self.assertEqual(count_at([], 5), 0)

    def test_against_fractions(self):
        chance = random.Random(16)
        for _ in range(300):
            parts = [random_part(chance) for _ in range(chance.randint(0, 6))]
            times = list(range(45)) + [chance.randint(0, 10001) for _ in range(20)]
            for t in times:
                expected = min(1000, sum(slow_count(part, t) for part in parts))
                self.assertEqual(count_at(parts, t), expected, (parts, t))
            self.assertEqual(counts(parts, 45), [count_at(parts, t) for t in range(45)])

    def test_arguments_stay_as_they_are_and_nothing_is_shared(self):
        parts = list(PARTS)
        counts(parts, 5).append(3)
        check_load(parts)
        write_load(parts)
        self.assertEqual(parts, PARTS)
        self.assertEqual(len(counts(parts, 5)), 5)


class Texts(unittest.TestCase):
    def malformed(self, text, line):
        with self.assertRaises(Malformed) as caught:
            read_load(text)
        self.assertEqual(caught.exception.line, line, text)

    def compare(self, text):
        expected = slow_read(text)
        if isinstance(expected, int):
            self.malformed(text, expected)
        else:
            self.assertEqual(read_load(text), expected)
            self.assertEqual(write_load(expected), text)

    def test_example(self):
        self.assertEqual(write_load(PARTS), TEXT)
        self.assertEqual(read_load(TEXT), PARTS)
        self.assertEqual(read_load("0 20 ramp 3 40"), [(0, 20, ("ramp", 3, 40))])

    def test_kinds_of_values(self):
        parts = read_load(TEXT)
        self.assertIs(type(parts), list)
        for part in parts:
            self.assertIs(type(part), tuple)
            self.assertIs(type(part[2]), tuple)

    def test_empty_load(self):
        self.assertEqual(write_load([]), "")
        self.assertEqual(read_load(""), [])
        read_load("").append(FLAT)
        self.assertEqual(read_load(""), [])

    def test_empty_lines(self):
        self.malformed("\n", 0)
        self.malformed(TEXT + "\n", 4)
        self.malformed("\n" + TEXT, 0)
        self.malformed(TEXT.replace("\n5", "\n\n5"), 1)

    def test_twenty_and_twenty_one_lines(self):
        lines = ["0 1 flat 1"] * 20
        self.assertEqual(len(read_load("\n".join(lines))), 20)
        self.malformed("\n".join(lines + ["0 1 flat 1"]), 20)
        self.malformed("\n".join(lines + [""]), 20)
        self.malformed("\n".join(lines + ["0 1 flat 1", "what"]), 20)
        self.malformed("\n".join(lines[:7] + ["what"] + lines), 7)

    def test_wrong_lines(self):
        for line in ("0", "0 1", "0 1 flat", "0 1 flat 1 ", " 0 1 flat 1", "0  1 flat 1", "0 1 flat  1", "00 1 flat 1",
                     "0 01 flat 1", "0 1 flat 01", "+0 1 flat 1", "0 +1 flat 1", "0 1 flat -1", "-1 1 flat 1",
                     "1 1 flat 1", "2 1 flat 1", "0 10001 flat 1", "0 1 flat 1001", "0 1 flat 1 1", "0 1 hill 1",
                     "0 1 Flat 1", "0 1 1", "0 1 1 flat", "flat 0 1 1", "0 flat 1 1", "0 1 wave 5 4 9",
                     "0 1 wave 1 2 1", "0 1 burst 1 1", "0 1 burst 1 0", "0 1 flat x", "0 1 flat 1.0", "0 1 flat 1_0",
                     "0 1  1", "0 1 flat 1\t", "99999999999999999999 1 flat 1", "0 1,flat 1", "x", " ", "  ", "   "):
            self.malformed(line, 0)
            self.malformed("0 1 flat 1\n" + line + "\n0 1 flat", 1)

    def test_changes_of_one_character(self):
        for place in range(len(TEXT)):
            self.compare(TEXT[:place] + TEXT[place + 1:])
            self.compare(TEXT[:place])
            for mark in (" ", "0", "9", "-", "+", "\n", "x"):
                self.compare(TEXT[:place] + mark + TEXT[place:])
                self.compare(TEXT[:place] + mark + TEXT[place + 1:])

    def test_random_loads(self):
        chance = random.Random(17)
        for _ in range(300):
            parts = [random_part(chance) for _ in range(chance.randint(0, 20))]
            self.assertIsNone(check_load(parts))
            self.compare(write_load(parts))
            self.assertEqual(read_load(write_load(parts)), parts)

    def test_wrong_shapes_as_texts(self):
        for shape in WRONG_SHAPES:
            self.malformed(" ".join(["0 9"] + [str(word) for word in shape]), 0)
        for shape in RIGHT_SHAPES:
            self.assertEqual(read_load(" ".join(["0 9"] + [str(word) for word in shape])), [(0, 9, shape)])


NUMBER = "(0|[1-9][0-9]*)"
LINE = re.compile(f"{NUMBER} {NUMBER} (flat|ramp|wave|burst)((?: {NUMBER})+)")


def slow_read(text):
    """Return the load, or the index of the first line that cannot stand."""
    parts = []
    for at, line in enumerate(text.split("\n") if text else []):
        found = LINE.fullmatch(line)
        if not found or at == 20:
            return at
        numbers = tuple(int(word) for word in found.group(4).split())
        parts.append((int(found.group(1)), int(found.group(2)), (found.group(3),) + numbers))
        try:
            check_load(parts)
        except InvalidRow:
            return at
    return parts


if __name__ == "__main__":
    unittest.main()
