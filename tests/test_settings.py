"""Points 2, 3 and 4: the settings of a service and of a house, and a setting as a text."""

import random
import re
import unittest

from ebbkeep.errors import InvalidSetting, Malformed
from ebbkeep.settings import check_house, check_service, read_house, write_house

WEB = ("web", 4, 0, 3, 2, 6, 5000, (9, 2), (0, 5, 30))
MAIL = ("mail", 8, 1, 10, 1, 4, 900, (7,), (0, 20))
KEEP = ("web", 2, 8, 18, 24)
HOUSE = (9, (WEB, MAIL), (KEEP,))
LINES = [
    "quota 9",
    "service web room 4 lag 0 patience 3 weight 2 most 6 budget 5000 rates 9 2 wakes 0 5 30",
    "service mail room 8 lag 1 patience 10 weight 1 most 4 budget 900 rates 7 wakes 0 20",
    "keep web 2 from 8 to 18 every 24",
]
TEXT = "\n".join(LINES)
SHORT = "service {} room 1 lag 0 patience 0 weight 1 most 0 budget 0 rates 1 wakes 0 1"


def short(name):
    return (name, 1, 0, 0, 1, 0, 0, (1,), (0, 1))


def changed(row, at, value):
    return row[:at] + (value,) + row[at + 1:]


class Service(unittest.TestCase):
    def accept(self, setting):
        self.assertIsNone(check_service(setting))

    def refuse(self, setting):
        with self.assertRaises(InvalidSetting):
            check_service(setting)

    def test_right_ones(self):
        self.accept(WEB)
        self.accept(MAIL)
        self.accept(short("a"))
        self.accept(("abcdefghijkl", 64, 20, 20, 9, 40, 1000000, (4, 3, 2, 1), (0, 1, 2, 3, 4)))

    def test_names(self):
        for name in ("a", "z", "az", "rates", "wakes", "service", "keep", "mnopqrstuvwx"):
            self.accept(changed(WEB, 0, name))
        for name in ("", "abcdefghijklm", "Web", "web1", "we b", " web", "web\n", "w-b", "\u00e9", "`", "{", "a_b"):
            self.refuse(changed(WEB, 0, name))

    def test_bounds(self):
        base = ("web", 4, 2, 7, 2, 6, 5000, (9, 2), (0, 5, 30))
        bounds = [(1, 1, 64), (2, 0, 7), (3, 2, 20), (4, 1, 9), (5, 0, 40), (6, 0, 1000000)]
        for at, low, high in bounds:
            self.accept(changed(base, at, low))
            self.accept(changed(base, at, high))
            self.refuse(changed(base, at, low - 1))
            self.refuse(changed(base, at, high + 1))
            self.refuse(changed(base, at, -5))
            self.refuse(changed(base, at, 10**30))

    def test_lag_and_patience(self):
        self.accept(changed(changed(WEB, 2, 3), 3, 3))
        self.refuse(changed(changed(WEB, 2, 4), 3, 3))
        self.accept(changed(changed(WEB, 2, 0), 3, 0))
        self.accept(changed(changed(WEB, 2, 20), 3, 20))
        self.refuse(changed(changed(WEB, 2, 21), 3, 21))
        self.refuse(changed(changed(WEB, 2, -1), 3, 5))

    def test_wrong_tariffs(self):
        for rates, wakes in [((), ()), ((), (0,)), ((9, 9), (0, 1, 2)), ((9,), (1, 2)), ((9,), (0,)),
                             ((5, 4, 3, 2, 1), (0, 1, 2, 3, 4, 5)), ((10001,), (0, 1)), ((9,), (0, 10001))]:
            self.refuse(changed(changed(WEB, 7, rates), 8, wakes))


class House(unittest.TestCase):
    def accept(self, setting):
        self.assertIsNone(check_house(setting))

    def refuse(self, setting):
        with self.assertRaises(InvalidSetting):
            check_house(setting)

    def test_right_ones(self):
        self.accept(HOUSE)
        self.accept((0, (WEB,), ()))
        self.accept((200, (WEB,), ()))

    def test_quota(self):
        for quota in (-1, 201, 10**20, -(10**20)):
            self.refuse((quota, (WEB,), ()))

    def test_number_of_services(self):
        self.refuse((9, (), ()))
        for many in range(1, 7):
            self.accept((9, tuple(short(name) for name in "abcdef"[:many]), ()))
        self.refuse((9, tuple(short(name) for name in "abcdefg"), ()))

    def test_names_are_different(self):
        self.refuse((9, (WEB, WEB), ()))
        self.refuse((9, (WEB, MAIL, changed(short("web"), 1, 3)), ()))
        self.refuse((9, (MAIL, WEB, MAIL), ()))

    def test_every_service_is_right(self):
        bad = changed(MAIL, 1, 65)
        self.refuse((9, (bad,), ()))
        self.refuse((9, (WEB, bad), ()))
        self.refuse((9, (bad, WEB), ()))
        self.refuse((9, (WEB, changed(MAIL, 7, (0,))), ()))

    def test_number_of_keeps(self):
        self.accept((9, (WEB,), (KEEP,) * 12))
        self.refuse((9, (WEB,), (KEEP,) * 13))

    def test_keep_names_a_service(self):
        self.accept((9, (WEB, MAIL), (changed(KEEP, 0, "mail"),)))
        self.refuse((9, (MAIL,), (KEEP,)))
        self.refuse((9, (WEB, MAIL), (KEEP, changed(KEEP, 0, "we"))))
        self.refuse((9, (WEB,), (changed(KEEP, 0, ""),)))

    def test_least(self):
        for least, is_right in [(0, False), (1, True), (40, True), (41, False), (-3, False)]:
            (self.accept if is_right else self.refuse)((9, (WEB,), (changed(KEEP, 1, least),)))

    def test_begin_end_and_period(self):
        for times in [(0, 1, 1), (0, 1, 100), (99, 100, 100), (0, 100, 100), (3, 4, 4)]:
            self.accept((9, (WEB,), (("web", 1) + times,)))
        for times in [(-1, 1, 1), (0, 0, 1), (1, 1, 1), (2, 1, 5), (0, 2, 1), (0, 101, 101), (0, 1, 101),
                      (100, 101, 101), (0, 0, 0), (5, 4, 3), (-2, -1, 5)]:
            self.refuse((9, (WEB,), (("web", 1) + times,)))

    def test_second_keep_is_checked(self):
        self.refuse((9, (WEB,), (KEEP, changed(KEEP, 1, 41))))


class Texts(unittest.TestCase):
    def malformed(self, text, line):
        with self.assertRaises(Malformed) as caught:
            read_house(text)
        self.assertEqual(caught.exception.line, line, text)

    def test_example(self):
        self.assertEqual(write_house(HOUSE), TEXT)
        self.assertEqual(read_house(TEXT), HOUSE)

    def test_smallest(self):
        house = (0, (short("a"),), ())
        self.assertEqual(write_house(house), "quota 0\n" + SHORT.format("a"))
        self.assertEqual(read_house("quota 0\n" + SHORT.format("a")), house)

    def test_largest_numbers(self):
        service = ("abcdefghijkl", 64, 20, 20, 9, 40, 1000000, (10000, 3, 2, 1), (0, 1, 2, 3, 10000))
        house = (200, (service,), (("abcdefghijkl", 40, 99, 100, 100),) * 12)
        self.assertEqual(read_house(write_house(house)), house)

    def test_names_that_are_words_of_the_form(self):
        for name in ("wakes", "rates", "service", "keep", "quota"):
            house = (7, (changed(WEB, 0, name),), (changed(KEEP, 0, name),))
            self.assertEqual(read_house(write_house(house)), house)

    def test_result_is_all_tuples(self):
        quota, services, keeps = read_house(TEXT)
        self.assertIs(type(quota), int)
        for value in (services, keeps, services[0], services[0][7], services[0][8], keeps[0]):
            self.assertIs(type(value), tuple)
        self.assertEqual(read_house("quota 0\n" + SHORT.format("a"))[2], ())

    def test_empty_text(self):
        self.malformed("", 0)
        self.malformed("\n", 0)

    def test_first_line(self):
        for line in ("quota", "quota ", "quota 09", "quota +9", "quota -0", "quota 201", "quota 9 ", " quota 9",
                     "quota  9", "Quota 9", "quota 9 9", "quota x", "9", "quota 99999999999999999999",
                     "quota 1_0", "quotas 9"):
            self.malformed("\n".join([line] + LINES[1:]), 0)

    def test_no_service(self):
        self.malformed("quota 9", 1)
        self.malformed("quota 9\n", 1)
        self.malformed("quota 9\n" + LINES[3], 1)

    def test_lines_exchanged(self):
        quota, web, mail, keep = LINES
        self.malformed("\n".join([web, quota, mail, keep]), 0)
        self.malformed("\n".join([quota, web, keep, mail]), 3)
        self.malformed("\n".join([quota, keep, web, mail]), 1)
        self.assertEqual(read_house("\n".join([quota, mail, web, keep])), (9, (MAIL, WEB), (KEEP,)))

    def test_lines_doubled(self):
        quota, web, mail, keep = LINES
        self.malformed("\n".join([quota, quota, web, mail, keep]), 1)
        self.malformed("\n".join([quota, web, web, mail, keep]), 2)
        self.malformed("\n".join([quota, web, mail, web, keep]), 3)
        self.assertEqual(read_house("\n".join(LINES + [keep])), (9, (WEB, MAIL), (KEEP, KEEP)))

    def test_lines_left_out(self):
        quota, web, mail, keep = LINES
        self.malformed("\n".join([web, mail, keep]), 0)
        self.malformed("\n".join([quota, mail, keep]), 2)
        self.assertEqual(read_house("\n".join([quota, web, keep])), (9, (WEB,), (KEEP,)))
        self.assertEqual(read_house("\n".join([quota, web, mail])), (9, (WEB, MAIL), ()))

    def test_empty_lines(self):
        for at in range(5):
            self.malformed("\n".join(LINES[:at] + [""] + LINES[at:]), at)
        self.malformed(TEXT + "\n\n", 4)

    def test_seven_services_and_thirteen_keeps(self):
        services = [SHORT.format(name) for name in "abcdefg"]
        self.assertEqual(len(read_house("\n".join(["quota 1"] + services[:6]))[1]), 6)
        self.malformed("\n".join(["quota 1"] + services), 7)
        keeps = ["keep a 1 from 0 to 1 every 1"] * 13
        self.assertEqual(len(read_house("\n".join(["quota 1"] + services[:2] + keeps[:12]))[2]), 12)
        self.malformed("\n".join(["quota 1"] + services[:2] + keeps), 15)

    def test_the_first_wrong_line_counts(self):
        bad = [LINES[0], LINES[1], LINES[2].replace("room 8", "room 65"), LINES[3], "", "what"]
        self.malformed("\n".join(bad), 2)
        bad = [LINES[0], LINES[1].replace("lag 0", "lag 4"), "", "quota 201"]
        self.malformed("\n".join(bad), 1)
        self.malformed("quota 999\nservice\nkeep", 0)

    def test_spaces_zeros_and_signs_in_every_line(self):
        for at, line in enumerate(LINES):
            for place in range(len(line) + 1):
                for mark in (" ", "0", "+", "-", "x", "_"):
                    other = line[:place] + mark + line[place:]
                    self.compare("\n".join(LINES[:at] + [other] + LINES[at + 1:]))

    def test_one_character_less(self):
        for place in range(len(TEXT)):
            self.compare(TEXT[:place] + TEXT[place + 1:])

    def test_beginnings(self):
        for place in range(len(TEXT)):
            self.compare(TEXT[:place])

    def test_words_left_out_doubled_and_exchanged(self):
        for at, line in enumerate(LINES):
            words = line.split(" ")
            for place in range(len(words)):
                others = [words[:place] + words[place + 1:], words[:place] + words[place:place + 1] + words[place:],
                          words[:place] + words[place:place + 2][::-1] + words[place + 2:]]
                for other in others:
                    self.compare("\n".join(LINES[:at] + [" ".join(other)] + LINES[at + 1:]))

    def test_random_changes(self):
        chance = random.Random(4)
        marks = [chr(code) for code in range(32, 127) if code != 37] + ["\n"] * 9 + list("0123456789 ")
        for _ in range(4000):
            text = list(TEXT)
            for _ in range(chance.randint(1, 3)):
                text[chance.randrange(len(text))] = chance.choice(marks)
            self.compare("".join(text))

    def test_random_houses(self):
        chance = random.Random(5)
        for _ in range(300):
            house = random_house(chance)
            self.assertIsNone(check_house(house))
            text = write_house(house)
            self.assertEqual(read_house(text), house)
            lines = text.split("\n")
            chance.shuffle(lines)
            self.compare("\n".join(lines))

    def compare(self, text):
        """The reader against patterns for the lines, read one after the other."""
        expected = slow_read(text)
        if isinstance(expected, int):
            self.malformed(text, expected)
        else:
            self.assertEqual(read_house(text), expected, text)
            self.assertEqual(write_house(expected), text)


def random_house(chance):
    names = chance.sample(["a", "web", "mail", "rates", "wakes", "abcdefghijkl", "keep"], chance.randint(1, 6))
    services = []
    for name in names:
        patience = chance.randint(0, 20)
        many = chance.randint(1, 4)
        rates = tuple(sorted(chance.sample(range(1, 10001), many), reverse=True))
        wakes = (0,) + tuple(sorted(chance.sample(range(1, 10001), many)))
        services.append((name, chance.randint(1, 64), chance.randint(0, patience), patience, chance.randint(1, 9),
                         chance.randint(0, 40), chance.randint(0, 1000000), rates, wakes))
    keeps = []
    for _ in range(chance.randint(0, 5)):
        begin, end = sorted(chance.sample(range(101), 2))
        keeps.append((chance.choice(names), chance.randint(1, 40), begin, end, chance.randint(end, 100)))
    return (chance.randint(0, 200), tuple(services), tuple(keeps))


NUMBER = "(0|[1-9][0-9]*)"
SERVICE_LINE = re.compile(
    f"service ([a-z]+) room {NUMBER} lag {NUMBER} patience {NUMBER} weight {NUMBER} most {NUMBER} budget {NUMBER}"
    f" rates((?: {NUMBER})*) wakes((?: {NUMBER})*)"
)
KEEP_LINE = re.compile(f"keep ([a-z]+) {NUMBER} from {NUMBER} to {NUMBER} every {NUMBER}")


def slow_read(text):
    """Return the setting, or the index of the first line that cannot stand."""
    lines = text.split("\n")
    first = re.fullmatch(f"quota {NUMBER}", lines[0])
    if not first or int(first.group(1)) > 200:
        return 0
    services, keeps = [], []
    for at in range(1, len(lines)):
        service = SERVICE_LINE.fullmatch(lines[at])
        keep = KEEP_LINE.fullmatch(lines[at])
        if service and not keeps:
            parts = service.groups()
            rates = tuple(int(word) for word in parts[7].split())
            wakes = tuple(int(word) for word in parts[9].split())
            services.append((parts[0],) + tuple(int(word) for word in parts[1:7]) + (rates, wakes))
        elif keep:
            parts = keep.groups()
            keeps.append((parts[0],) + tuple(int(word) for word in parts[1:]))
        else:
            return at
        try:
            check_house((0, tuple(services), tuple(keeps)))
        except InvalidSetting:
            return at
    if not services:
        return len(lines)
    return (int(first.group(1)), tuple(services), tuple(keeps))


if __name__ == "__main__":
    unittest.main()
