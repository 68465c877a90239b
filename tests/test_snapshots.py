"""Points 73 and 74: snapshots, and houses that are read from them."""

import copy
import random
import unittest

from cases import FOUR_RATES, ONE_RATE, PLAIN
from ebbkeep.errors import Malformed
from ebbkeep.house import House, restart
from ebbkeep.snapshots import read_snapshot, write_snapshot
from houses import house_of, random_house, random_ledger, service

ONE = house_of(service(patience=5, tariff=PLAIN))
TWO = house_of(service("a", 1, 1, 5, tariff=PLAIN), service("b", patience=3), quota=1)
FOUR = house_of(service(patience=2, tariff=FOUR_RATES))


def view(house):
    each = range(len(house.setting()[1]))
    return (house.setting(), house.now(), [house.queue_rows(k) for k in each], [house.pool_parts(k) for k in each])


class Write(unittest.TestCase):
    def test_before_the_first_moment(self):
        self.assertEqual(write_snapshot(House(ONE)), "now 0\nqueue\npool 0")
        self.assertEqual(write_snapshot(House(TWO)), "now 0\nqueue\npool 0\nqueue\npool 0")

    def test_example(self):
        house = restart(house_of(service(most=1, patience=5, tariff=PLAIN), keeps=[("web", 2, 0, 1, 9)]),
                        [[(5, 1, False)], [(1, 4, False)], [(4, 2, False)]])
        self.assertEqual(write_snapshot(house), "now 3\nqueue 1:2 2:2\npool 205 0:0:0 1:5:10")

    def test_several_services(self):
        house = restart(TWO, [[(1, 2, False), (1, 3, False)], [(1, 0, False), (2, 1, True)]])
        self.assertEqual(write_snapshot(house), "now 2\nqueue 0:1\npool 39 0:0:0\nqueue 0:2 1:1\npool 35")

    def test_an_empty_queue_and_a_pool_that_is_off(self):
        house = restart(ONE, [[(1, 1, True)], [(1, 0, False)]])
        self.assertEqual(write_snapshot(house), "now 2\nqueue\npool 39")

    def test_lanes_in_every_state(self):
        told = [(1, 5), (1, 4), (4, 3), (10, 2), (2, 1), (1, 0)]
        house = restart(FOUR, [[(price, came, False)] for price, came in told])
        text = "now 6\nqueue\npool 1893 0:1:20 1:3:27 2:13:52 3:17:85 3:18:99"
        self.assertEqual(write_snapshot(house), text)
        self.assertEqual(view(read_snapshot(FOUR, text)), view(house))

    def test_all_forty_lanes(self):
        house = restart(house_of(service()), [[(1, 40, False)]])
        self.assertEqual(write_snapshot(house), "now 1\nqueue\npool 1000" + " 0:0:0" * 40)

    def test_the_house_stays_as_it_is(self):
        house = restart(*random_house(random.Random(73)))
        before = copy.deepcopy((view(house), house.record(), house.ledger()))
        write_snapshot(house)
        self.assertEqual((view(house), house.record(), house.ledger()), before)


class Read(unittest.TestCase):
    def refuse(self, setting, text):
        with self.assertRaises(Malformed, msg=text) as caught:
            read_snapshot(setting, text)
        self.assertIsInstance(caught.exception.line, int)

    def kept(self, setting, text):
        self.assertEqual(write_snapshot(read_snapshot(setting, text)), text)

    def test_example_of_the_document(self):
        house = read_snapshot(ONE, "now 12\nqueue 10:3 11:4\npool 321 0:0:0 1:5:10")
        self.assertEqual(house.now(), 12)
        self.assertEqual(house.setting(), ONE)
        self.assertEqual(house.queue_rows(0), [(10, 3), (11, 4)])
        self.assertEqual(house.pool_parts(0), (((0, 0, 0), (1, 5, 10)) + ((2, 0, 0),) * 38, 321))
        self.assertEqual((house.record(), house.ledger()), ([], []))
        deed = house.moment([(1, 0, False)])[0]
        self.assertEqual(deed[:9], (1, 0, False, 7, 7, 7, 7, 7, 0))
        self.assertEqual(deed[12], 7 * 9 + 5 + 5 * 30)
        self.assertEqual((house.now(), len(house.record()), house.ledger()), (13, 1, [[(1, 0, False)]]))

    def test_right_ones(self):
        for text in ("now 0\nqueue\npool 0", "now 999999999\nqueue\npool 999999999", "now 7\nqueue 2:1 6:1000\npool 7",
                     "now 3\nqueue\npool 90 2:0:0 1:5:10", "now 3\nqueue\npool 90 2:0:0 2:0:0 0:0:0",
                     "now 3\nqueue\npool 90 0:1:9", "now 1\nqueue\npool 1" + " 0:0:0" * 40):
            self.kept(ONE, text)

    def test_lines_too_few_or_too_many(self):
        for text in ("", "now 0", "now 0\nqueue", "now 0\nqueue\npool 0\n", "now 0\nqueue\npool 0\nqueue",
                     "now 0\nqueue\npool 0\nqueue\npool 0", "\nnow 0\nqueue\npool 0", "now 0\n\nqueue\npool 0", "queue\npool 0"):
            self.refuse(ONE, text)
        self.refuse(TWO, "now 0\nqueue\npool 0")
        self.refuse(TWO, "now 0\nqueue\npool 0\nqueue")

    def test_wrong_first_lines(self):
        for line in ("", "now", "now ", "now  1", "now 01", "now -1", "now x", "now 1 ", " now 1", "Now 1", "now 1 1",
                     "now 1000000000", "then 1", "1", "now 1:1"):
            self.refuse(ONE, line + "\nqueue\npool 0")

    def test_wrong_queues(self):
        for line in ("", "queue ", " queue", "queue  10:1", "queue 10:1 ", "queue 10", "queue 10:", "queue :1", "queue 10:1:1",
                     "queue 10:01", "queue 010:1", "queue 10:0", "queue 10:-1", "queue x:1", "queue 10:1000000000",
                     "queue 11:1 10:1", "queue 10:1 10:1", "queue 12:1", "queue 13:1", "queue 6:1", "queues 10:1", "10:1",
                     "queue 1000000000:1", "queue 10;1", "queue 10:1, 11:1", "pool 0"):
            self.refuse(ONE, f"now 12\n{line}\npool 0")
        for line in ("queue", "queue 7:1", "queue 11:1", "queue 7:1 8:1 9:1 10:1 11:1"):
            self.kept(ONE, f"now 12\n{line}\npool 0")

    def test_wrong_pools(self):
        for line in ("", "pool", "pool ", "pool  1", "pool x", "pool 01", "pool -1", "pool 1000000000", "pool 1 ", " pool 1",
                     "pool 0:0:0", "pool 1 0", "pool 1 0:0", "pool 1 0:0:0:0", "pool 1 3:0:0", "pool 1 9:0:0", "pool 1 -1:0:0",
                     "pool 1 00:0:0", "pool 1 0:00:0", "pool 1 0:0:07", "pool 1 0:0:1000000000", "pool 1 1:5:10 2:0:0",
                     "pool 1 2:0:0", "pool 1 0:0:0  1:5:10", "pool 1 :0:0", "pool 1 a:0:0", "pools 1", "queue",
                     "pool 1" + " 0:0:0" * 41, "pool 1" + " 2:0:0" * 40 + " 0:0:0"):
            self.refuse(ONE, f"now 12\nqueue\n{line}")
        for line in ("pool 1 2:5:0 0:0:0", "pool 1 2:0:5 0:0:0"):
            self.refuse(ONE, f"now 12\nqueue\n{line}")

    def test_states_of_another_tariff(self):
        self.kept(FOUR, "now 1\nqueue\npool 9 3:70:4")
        self.refuse(FOUR, "now 1\nqueue\npool 9 4:0:0")
        self.refuse(ONE, "now 1\nqueue\npool 9 3:70:4")
        self.refuse(house_of(service(tariff=ONE_RATE)), "now 1\nqueue\npool 9 1:0:0")

    def test_lines_of_services_in_another_order(self):
        self.refuse(TWO, "now 0\npool 0\nqueue\npool 0\nqueue")
        self.refuse(TWO, "now 0\nqueue\nqueue\npool 0\npool 0")

    def test_a_wrong_line_of_the_second_service(self):
        self.refuse(TWO, "now 1\nqueue\npool 0\nqueue 0:0\npool 0")
        self.refuse(TWO, "now 1\nqueue\npool 0\nqueue 0:1\npool 0 2:0:0")
        self.kept(TWO, "now 1\nqueue\npool 0\nqueue 0:1\npool 0")


class Lines(unittest.TestCase):
    def test_the_line_is_the_first_one_that_cannot_stand(self):
        good = ["now 1", "queue", "pool 0", "queue 0:1", "pool 0"]
        self.assertEqual(write_snapshot(read_snapshot(TWO, "\n".join(good))), "\n".join(good))
        for at in range(5):
            for lines, line in ((good[:at] + ["x"] + good[at + 1:], at), (good[:at], at), (good + ["x"] * (at + 1), 5)):
                with self.assertRaises(Malformed) as caught:
                    read_snapshot(TWO, "\n".join(lines))
                self.assertEqual(caught.exception.line, line, lines)


class GoesOn(unittest.TestCase):
    def test_the_same_deeds_as_the_house_that_the_snapshot_is_of(self):
        chance = random.Random(74)
        resting = asleep = waiting = 0
        for _ in range(300):
            setting, ledger = random_house(chance)
            house = restart(setting, ledger)
            text = write_snapshot(house)
            other = read_snapshot(setting, text)
            self.assertEqual(view(other), view(house))
            self.assertEqual(write_snapshot(other), text)
            for k, one in enumerate(setting[1]):
                last = len(one[7])
                states = [lane[0] for lane in other.pool_parts(k)[0]]
                asleep += any(0 < state < last for state in states)
                waiting += len(other.queue_rows(k)) > 1
                resting += states[0] == last
            later = random_ledger(chance, setting)
            for entry in later:
                self.assertEqual(other.moment(entry), house.moment(entry))
                self.assertEqual(view(other), view(house))
            self.assertEqual(other.ledger(), later)
            self.assertEqual(other.record(), house.record()[len(ledger):])
            self.assertEqual(write_snapshot(other), write_snapshot(house))
        self.assertGreater(min(resting, asleep, waiting), 15, (resting, asleep, waiting))

    def test_lanes_that_are_off_between_others_that_are_not(self):
        # No house has such lanes, as the same lanes are needed for the same need; but a text may tell them.
        text = "now 3\nqueue\npool 90 2:0:0 1:5:10 2:0:0 0:1:9"
        house = read_snapshot(ONE, text)
        self.assertEqual(write_snapshot(house), text)
        self.assertEqual([lane[0] for lane in house.pool_parts(0)[0][:5]], [2, 1, 2, 0, 2])

    def test_keeps_go_on(self):
        setting = house_of(service(), keeps=[("web", 2, 1, 3, 4)])
        house = read_snapshot(setting, "now 5\nqueue\npool 0")
        self.assertEqual([house.moment([(1, 0, False)])[0][10] for _ in range(6)], [2, 2, 0, 0, 2, 2])

    def test_the_budget_goes_on(self):
        setting = house_of(service(budget=100))
        house = read_snapshot(setting, "now 5\nqueue\npool 56")
        self.assertEqual(house.moment([(1, 3, False)])[0][5], 0)
        house = read_snapshot(setting, "now 5\nqueue\npool 55")
        self.assertEqual(house.moment([(1, 3, False)])[0][5], 1)

    def test_two_houses_from_one_text(self):
        text = "now 12\nqueue 10:3 11:4\npool 321 0:0:0 1:5:10"
        one, other = read_snapshot(ONE, text), read_snapshot(ONE, text)
        one.moment([(1, 5, False)])
        one.queue_rows(0).append(7)
        self.assertEqual(write_snapshot(other), text)

    def test_a_wrong_entry_changes_nothing(self):
        text = "now 12\nqueue 10:3 11:4\npool 321 0:0:0 1:5:10"
        house = read_snapshot(ONE, text)
        for entry in ([], [(0, 0, False)], [(1, 1001, False)]):
            with self.assertRaises(ValueError):
                house.moment(entry)
        self.assertEqual(write_snapshot(house), text)


class Spoiled(unittest.TestCase):
    def test_malformed_or_a_house_with_this_snapshot(self):
        chance = random.Random(740)
        counts = {True: 0, False: 0}
        for _ in range(4000):
            setting, ledger = random_house(chance, longest=6)
            text = write_snapshot(restart(setting, ledger))
            for _ in range(chance.choice([1, 1, 2])):
                at = chance.randint(0, len(text))
                spoil = chance.choice(["", " ", ":", "0", "1", "4", "9", "\n", "queue", " 1:2", " 1:2:3", "2:0:0", "~"])
                text = text[:at] + spoil + text[at + chance.choice([0, 0, 1, 2, 9]):]
            try:
                house = read_snapshot(setting, text)
            except Malformed as error:
                self.assertTrue(0 <= error.line <= text.count("\n") + 1)
                counts[False] += 1
                continue
            counts[True] += 1
            self.assertEqual(write_snapshot(house), text)
        self.assertGreater(min(counts.values()), 200)


if __name__ == "__main__":
    unittest.main()
