"""Point 76: records as texts."""

import copy
import random
import unittest

from cases import FOUR_RATES, ONE_RATE, PLAIN
from ebbkeep.errors import Malformed
from ebbkeep.house import restart
from ebbkeep.tellings import read_record, write_record
from houses import changed, house_of, random_house, service

ONE = house_of(service(tariff=PLAIN))
TWO = house_of(service("a", tariff=PLAIN), service("b", tariff=FOUR_RATES))
LINE = "5 12 stay 12 3 3 3 12 0 all 3 00011 98"
WORDS = LINE.split(" ")


def filled(states, last=2):
    return tuple(states) + (last,) * (40 - len(states))


DEED = (5, 12, False, 12, 3, 3, 3, 12, 0, "all", 3, filled([0, 0, 0, 1, 1]), 98)


def line(at, word):
    return " ".join(changed(WORDS, at, word))


class Write(unittest.TestCase):
    def test_one_deed(self):
        self.assertEqual(write_record(ONE, [[DEED]]), LINE)
        self.assertEqual(write_record(ONE, [[changed(DEED, 2, True)]]), "5 12 break 12 3 3 3 12 0 all 3 00011 98")
        for why in ("all", "quota", "budget", "most"):
            self.assertEqual(write_record(ONE, [[changed(DEED, 9, why)]]).split(" ")[9], why)

    def test_the_example_of_the_document(self):
        # The last lane that is told is asleep, so this is a tariff with more than two rates.
        setting = house_of(service(tariff=FOUR_RATES))
        deed = changed(DEED, 11, filled([0, 0, 0, 1, 1, 2], 4))
        text = "5 12 stay 12 3 3 3 12 0 all 3 000112 98"
        self.assertEqual(write_record(setting, [[deed]]), text)
        self.assertEqual(read_record(setting, text), [[deed]])

    def test_states(self):
        for states, word in (((), "none"), ((0,), "0"), ((2, 0), "20"), ((1, 2, 2, 1), "1221"), ((0,) * 40, "0" * 40),
                             ((2,) * 39 + (1,), "2" * 39 + "1")):
            self.assertEqual(write_record(ONE, [[changed(DEED, 11, filled(states))]]).split(" ")[11], word)

    def test_the_empty_record(self):
        self.assertEqual(write_record(TWO, []), "")

    def test_moment_by_moment_and_service_by_service(self):
        record = [[changed(DEED, 0, 10 * t + k) for k in range(2)] for t in range(3)]
        record = [[deeds[0], changed(deeds[1], 11, filled([0], 4))] for deeds in record]
        text = write_record(TWO, record)
        self.assertEqual([row.split(" ")[0] for row in text.split("\n")], ["0", "1", "10", "11", "20", "21"])
        self.assertEqual([row.split(" ")[11] for row in text.split("\n")], ["00011", "0"] * 3)
        self.assertEqual(read_record(TWO, text), record)


class Read(unittest.TestCase):
    def refuse(self, text, at=0, setting=ONE):
        with self.assertRaises(Malformed, msg=text) as caught:
            read_record(setting, text)
        self.assertEqual(caught.exception.line, at, text)

    def test_right_ones(self):
        self.assertEqual(read_record(ONE, LINE), [[DEED]])
        self.assertEqual(read_record(ONE, line(2, "break")), [[changed(DEED, 2, True)]])
        self.assertEqual(read_record(ONE, LINE + "\n" + LINE), [[DEED], [DEED]])
        told = read_record(ONE, LINE)
        self.assertEqual([type(value) for value in (told, told[0], told[0][0], told[0][0][11])], [list, list, tuple, tuple])
        self.assertIs(told[0][0][2], False)

    def test_the_empty_record(self):
        self.assertEqual(read_record(ONE, ""), [])
        self.assertEqual(read_record(TWO, ""), [])

    def test_no_other_range_is_checked(self):
        self.assertEqual(read_record(ONE, "0 999999999 stay 0 0 999999999 0 0 7 most 0 none 0"), [
            [(0, 999999999, False, 0, 0, 999999999, 0, 0, 7, "most", 0, filled([]), 0)],
        ])

    def test_all_lanes_off_and_all_forty_not_off(self):
        for word, states in (("none", []), ("0" * 40, [0] * 40), ("2" * 39 + "0", [2] * 39 + [0]), ("1", [1]), ("20", [2, 0])):
            self.assertEqual(read_record(ONE, line(11, word))[0][0][11], filled(states))

    def test_wrong_states(self):
        for word in ("", "2", "02", "0002", "2" * 40, "0" * 41, "0" * 39 + "2", "0" * 40 + "2", "3", "30", "09", "-1", "x", "0x0",
                     "None", "nones", "none0", "0none", "off", "0:1", "1.0"):
            self.refuse(line(11, word))

    def test_the_digit_of_off_is_that_of_the_service(self):
        for rates, good, bad in ((ONE_RATE, "10", "1"), (PLAIN, "1", "2"), (FOUR_RATES, "3", "4")):
            setting = house_of(service(tariff=rates))
            last = len(rates[0])
            states = tuple(int(digit) for digit in good)
            self.assertEqual(read_record(setting, line(11, good))[0][0][11], filled(states, last))
            self.refuse(line(11, bad), setting=setting)
            self.refuse(line(11, str(last + 1) + "0"), setting=setting)
        text = line(11, "1") + "\n" + line(11, "3")
        self.assertEqual(read_record(TWO, text)[0][1][11], filled([3], 4))
        self.refuse(line(11, "3") + "\n" + line(11, "3"), setting=TWO)
        self.refuse(line(11, "1") + "\n" + line(11, "4"), 1, TWO)

    def test_wrong_integers(self):
        for at in (0, 1, 3, 4, 5, 6, 7, 8, 10, 12):
            for word in ("", "-1", "+1", "01", "00", "1.0", "x", "1000000000", "1_0", "none", "stay"):
                self.refuse(line(at, word))
            self.assertEqual(read_record(ONE, line(at, "999999999")), [[changed(DEED, at, 999999999)]])
            self.assertEqual(read_record(ONE, line(at, "0")), [[changed(DEED, at, 0)]])

    def test_wrong_words(self):
        for word in ("", "Stay", "Break", "breaks", "go", "True", "1", "all"):
            self.refuse(line(2, word))
        for word in ("", "All", "none", "other", "al", "quotas", "stay", "0"):
            self.refuse(line(9, word))

    def test_parts_too_few_or_too_many(self):
        for at in range(13):
            self.refuse(" ".join(WORDS[:at] + WORDS[at + 1:]))
            self.refuse(" ".join(WORDS[:at + 1] + WORDS[at:]))
            self.refuse(" ".join(WORDS[:at] + [""] + WORDS[at:]))
        for text in (" ", "5", LINE + " ", " " + LINE, LINE.replace(" ", ",")):
            self.refuse(text)

    def test_a_last_moment_with_too_few_lines(self):
        self.refuse(LINE, 1, TWO)
        self.refuse("\n".join([LINE] * 3), 3, TWO)
        self.assertEqual(len(read_record(TWO, "\n".join([LINE] * 4))), 2)
        three = house_of(*[service(name, tariff=PLAIN) for name in "abc"])
        for many in (1, 2, 4, 5):
            self.refuse("\n".join([LINE] * many), many, three)

    def test_empty_lines(self):
        self.refuse("\n")
        self.refuse("\n" + LINE)
        self.refuse(LINE + "\n", 1)
        self.refuse(LINE + "\n\n" + LINE, 1)
        self.refuse(LINE + "\n", 1, TWO)

    def test_the_first_line_that_cannot_stand(self):
        bad = line(11, "2")
        self.refuse("\n".join([LINE, LINE, bad, bad]), 2)
        self.refuse("\n".join([LINE, bad, ""]), 1)

    def test_more_than_500_moments(self):
        text = "\n".join(["1 0 stay 0 0 0 0 0 0 all 0 none 0"] * 600)
        self.assertEqual(len(read_record(ONE, text)), 600)


class Drawn(unittest.TestCase):
    def test_records_of_houses(self):
        chance = random.Random(76)
        for _ in range(150):
            setting, ledger = random_house(chance)
            record = restart(setting, ledger).record()
            kept = copy.deepcopy(record)
            text = write_record(setting, record)
            told = read_record(setting, text)
            self.assertEqual(told, record)
            for deeds in told:
                deeds.append(7)
            self.assertEqual(record, kept)
            self.assertEqual(read_record(setting, text), record)

    def test_spoiled_texts(self):
        chance = random.Random(760)
        counts = {True: 0, False: 0}
        for _ in range(3000):
            setting, ledger = random_house(chance, longest=3)
            text = write_record(setting, restart(setting, ledger).record())
            at = chance.randint(0, len(text))
            text = text[:at] + chance.choice(["", " ", "0", "1", "9", "\n", "n", "-"]) + text[at + chance.randint(0, 1):]
            try:
                record = read_record(setting, text)
            except Malformed as error:
                lines = text.split("\n")
                good = "\n".join(lines[:error.line - error.line % len(setting[1])])
                self.assertEqual(write_record(setting, read_record(setting, good)), good)
                self.assertLessEqual(error.line, len(lines))
                counts[False] += 1
                continue
            counts[True] += 1
            self.assertEqual(write_record(setting, record), text)
            self.assertTrue(all(len(deeds) == len(setting[1]) for deeds in record))
            self.assertTrue(all(len(deed[11]) == 40 for deeds in record for deed in deeds))
        self.assertGreater(min(counts.values()), 300)


if __name__ == "__main__":
    unittest.main()
