"""Point 68: ledgers as texts."""

import copy
import random
import unittest

from ebbkeep.errors import Malformed
from ebbkeep.ledgers import read_ledger, write_ledger

LEDGERS = {
    "": [],
    "5 12, 7 0 break": [[(5, 12, False), (7, 0, True)]],
    "1 0, 100 1000": [[(1, 0, False), (100, 1000, False)]],
    "1 0 break, 100 1000 break\n2 3, 4 5": [[(1, 0, True), (100, 1000, True)], [(2, 3, False), (4, 5, False)]],
}

WRONG_PARTS = (
    "", " ", "5", "5 ", " 5 12", "5  12", "5 12 ", "5 12 stay", "5 12 Break", "5 12 break ", "5 12  break",
    "5 12 break break", "5 12 breaks", "5 12 0", "5 break", "break", "break 5 12", "05 12", "5 012", "5 00", "-5 12", "5 -1",
    "+5 12", "5 1.0", "5 1_0", "5 x", "0 12", "101 12", "5 1001", "1000000000 12", "5 1000000000", "999999999 12",
    "5 999999999", "5,12", "5:12", "5 12;", "5 12,",
)


def drawn(chance, services):
    return [
        [(chance.randint(1, 100), chance.choice([0, chance.randint(0, 1000)]), chance.random() < 0.3)
         for _ in range(services)]
        for _ in range(chance.randint(0, 8))
    ]


class Ledgers(unittest.TestCase):
    def refuse(self, text, services, line):
        with self.assertRaises(Malformed, msg=text) as caught:
            read_ledger(text, services)
        self.assertEqual(caught.exception.line, line, text)

    def test_written_forms(self):
        for text, ledger in LEDGERS.items():
            self.assertEqual(write_ledger(ledger), text)
            self.assertEqual(read_ledger(text, 2), ledger)

    def test_the_kinds_of_values(self):
        ledger = read_ledger("5 12, 7 0 break", 2)
        self.assertEqual([type(value) for value in (ledger, ledger[0], ledger[0][0])], [list, list, tuple])
        self.assertIs(ledger[0][0][2], False)
        self.assertIs(ledger[0][1][2], True)

    def test_the_empty_ledger(self):
        for services in range(1, 7):
            self.assertEqual(read_ledger("", services), [])

    def test_one_service_and_six(self):
        self.assertEqual(read_ledger("5 12\n7 0 break", 1), [[(5, 12, False)], [(7, 0, True)]])
        text = ", ".join(f"{k + 1} {k}" for k in range(6))
        self.assertEqual(read_ledger(text, 6), [[(k + 1, k, False) for k in range(6)]])

    def test_wrong_parts(self):
        for part in WRONG_PARTS:
            if part != "":
                self.refuse(part, 1, 0)
            self.refuse("1 1\n" + part, 1, 1)
            self.refuse("1 1, 2 2\n3 3, " + part, 2, 1)
            self.refuse("1 1, 2 2\n3 3, 4 4\n" + part + ", 3 3\n5 5, 6 6", 2, 2)

    def test_a_comma_without_a_space(self):
        self.refuse("5 12,7 0", 2, 0)
        self.refuse("5 12 ,7 0", 2, 0)
        self.refuse("5 12 , 7 0", 2, 0)
        self.refuse("5 12,  7 0", 2, 0)
        self.refuse("5 12 7 0", 2, 0)

    def test_too_few_and_too_many_parts(self):
        self.refuse("1 1, 2 2\n1 1", 2, 1)
        self.refuse("1 1, 2 2\n1 1, 2 2, 3 3", 2, 1)
        self.refuse("1 1, 2 2", 1, 0)
        self.refuse("1 1, ", 1, 0)
        self.refuse(", 1 1", 1, 0)
        self.refuse(", ".join(["1 1"] * 5), 6, 0)
        self.refuse(", ".join(["1 1"] * 7), 6, 0)

    def test_empty_lines(self):
        self.refuse("\n", 1, 0)
        self.refuse("\n1 1", 1, 0)
        self.refuse("1 1\n", 1, 1)
        self.refuse("1 1\n\n2 2", 1, 1)
        self.refuse("1 1\n2 2\n\n", 1, 2)

    def test_the_first_line_that_cannot_stand(self):
        self.refuse("1 1\n0 1\n0 1", 1, 1)
        self.refuse("1 1\n2 2\nx\n0 0", 1, 2)

    def test_more_than_500_moments(self):
        self.assertEqual(read_ledger("\n".join(["1 0"] * 1250), 1), [[(1, 0, False)]] * 1250)

    def test_drawn_ledgers(self):
        chance = random.Random(68)
        for _ in range(200):
            services = chance.randint(1, 6)
            ledger = drawn(chance, services)
            kept = copy.deepcopy(ledger)
            text = write_ledger(ledger)
            self.assertEqual(read_ledger(text, services), ledger)
            self.assertEqual(ledger, kept)
            if ledger:
                self.refuse(text, services % 6 + 1, 0)

    def test_spoiled_texts(self):
        chance = random.Random(680)
        kept = 0
        for _ in range(4000):
            services = chance.randint(1, 3)
            text = write_ledger(drawn(chance, services))
            at = chance.randint(0, len(text))
            text = text[:at] + chance.choice(["", " ", ",", "0", "7", "\n", "b", ", "]) + text[at + chance.randint(0, 2):]
            try:
                ledger = read_ledger(text, services)
            except Malformed as error:
                good = "\n".join(text.split("\n")[:error.line])
                self.assertEqual(write_ledger(read_ledger(good, services)), good)
                continue
            kept += 1
            self.assertEqual(write_ledger(ledger), text)
            self.assertTrue(all(len(entry) == services for entry in ledger))
            for entry in ledger:
                self.assertTrue(all(1 <= price <= 100 and 0 <= came <= 1000 for price, came, _ in entry))
        self.assertGreater(kept, 200)

    def test_answers_are_new(self):
        read_ledger("1 1", 1)[0].append(7)
        self.assertEqual(read_ledger("1 1", 1), [[(1, 1, False)]])
        read_ledger("", 1).append(7)
        self.assertEqual(read_ledger("", 1), [])


if __name__ == "__main__":
    unittest.main()
