"""Points 10, 11 and 12: packing."""

import itertools
import random
import unittest

from ebbkeep.packing import accepts_packing, first_fit

SIZES = [1, 2, 4, 8, 16, 32, 64]


def random_pieces(chance, most):
    box = chance.choice(SIZES)
    sizes = [size for size in SIZES if size <= box]
    return box, [chance.choice(sizes) for _ in range(chance.randint(0, most))]


def slow_first_fit(box, sizes):
    boxes = []
    for size in reversed(SIZES):
        for piece in range(len(sizes)):
            if sizes[piece] == size:
                for there in boxes:
                    if sum(sizes[k] for k in there) + size <= box:
                        there.append(piece)
                        break
                else:
                    boxes.append([piece])
    return boxes


class FirstFit(unittest.TestCase):
    def test_example(self):
        self.assertEqual(first_fit(8, [1, 4, 2, 8, 4, 1]), [[3], [1, 4], [2, 0, 5]])

    def test_no_pieces(self):
        self.assertEqual(first_fit(8, []), [])

    def test_pieces_as_large_as_the_box(self):
        for box in SIZES:
            self.assertEqual(first_fit(box, [box, box, box]), [[0], [1], [2]])

    def test_equal_sizes_in_the_order_of_their_indexes(self):
        self.assertEqual(first_fit(4, [1] * 6), [[0, 1, 2, 3], [4, 5]])
        self.assertEqual(first_fit(4, [1, 2, 1, 2]), [[1, 3], [0, 2]])

    def test_box_of_one(self):
        self.assertEqual(first_fit(1, [1, 1]), [[0], [1]])

    def test_against_the_words_of_the_point(self):
        chance = random.Random(10)
        for _ in range(500):
            box, sizes = random_pieces(chance, 30)
            self.assertEqual(first_fit(box, sizes), slow_first_fit(box, sizes))

    def test_full_boxes_and_their_number(self):
        chance = random.Random(11)
        for _ in range(200):
            box, sizes = random_pieces(chance, 200)
            boxes = first_fit(box, sizes)
            loads = [sum(sizes[piece] for piece in pieces) for pieces in boxes]
            self.assertTrue(all(load == box for load in loads[:-1]))
            self.assertEqual(len(boxes), -(-sum(sizes) // box))
            self.assertIs(accepts_packing(box, sizes, boxes), True)

    def test_sizes_stay_as_they_are_and_nothing_is_shared(self):
        sizes = [1, 4, 2]
        boxes = first_fit(4, sizes)
        self.assertEqual(sizes, [1, 4, 2])
        boxes[0].append(9)
        boxes.append([])
        self.assertEqual(first_fit(4, sizes), [[1], [2, 0]])


class Accepting(unittest.TestCase):
    SIZES = [4, 2, 1, 1, 4, 2]

    def accepts(self, boxes, box=4, sizes=None):
        answer = accepts_packing(box, self.SIZES if sizes is None else sizes, boxes)
        self.assertIs(type(answer), bool)
        return answer

    def test_right_ones_in_any_order(self):
        self.assertTrue(self.accepts([[0], [4], [1, 5], [2, 3]]))
        self.assertTrue(self.accepts([[3, 2], [5, 1], [4], [0]]))
        self.assertTrue(self.accepts([[0], [1, 2, 3], [5], [4]]))

    def test_no_boxes(self):
        self.assertTrue(self.accepts([], 4, []))
        self.assertFalse(self.accepts([]))

    def test_empty_boxes(self):
        self.assertFalse(self.accepts([[]], 4, []))
        self.assertFalse(self.accepts([[0], [4], [1, 5], [2, 3], []]))
        self.assertFalse(self.accepts([[], [0]], 4, [4]))
        self.assertFalse(self.accepts([[], [0]], 4, [2]))

    def test_too_full(self):
        self.assertFalse(self.accepts([[0, 2], [4], [1, 5], [3]]))
        self.assertFalse(self.accepts([[0, 1]], 4, [4, 1]))
        self.assertFalse(self.accepts([[0, 4, 1, 5, 2, 3]]))

    def test_two_boxes_not_full(self):
        self.assertFalse(self.accepts([[0], [4], [1, 2], [5, 3]]))
        self.assertFalse(self.accepts([[0], [1]], 4, [2, 2]))
        self.assertFalse(self.accepts([[0], [1]], 4, [2, 1]))
        self.assertTrue(self.accepts([[0], [1]], 4, [4, 1]))
        self.assertTrue(self.accepts([[1], [0]], 4, [4, 1]))

    def test_an_index_twice_or_missing(self):
        self.assertFalse(self.accepts([[0], [4], [1, 5], [2, 2]]))
        self.assertFalse(self.accepts([[0], [0], [4], [1, 5], [2, 3]]))
        self.assertFalse(self.accepts([[0], [4], [1, 5]]))
        self.assertFalse(self.accepts([[0], [4], [1, 5], [2]]))

    def test_indexes_that_are_none(self):
        self.assertFalse(self.accepts([[0], [4], [1, 5], [2, -3]]))
        self.assertFalse(self.accepts([[-1]], 4, [4]))
        self.assertFalse(self.accepts([[1]], 4, [4]))
        self.assertFalse(self.accepts([[0], [4], [1, 5], [2, 3], [6]]))
        self.assertFalse(self.accepts([[0], [4], [1, 5], [2, 3, 6]]))
        self.assertFalse(self.accepts([[0], [4], [1, 5], [2, 3, 10**30]]))
        self.assertFalse(self.accepts([[0]], 4, []))

    def test_exactly_the_packings_with_as_few_boxes_as_possible(self):
        for sizes in ([4, 2, 2, 1], [2, 2, 1, 1], [1, 1, 1, 1], [4, 4, 2, 1], [2, 1, 1, 2]):
            best = -(-sum(sizes) // 4)
            for places in itertools.product(range(4), repeat=4):
                boxes = [[piece for piece in range(4) if places[piece] == at] for at in sorted(set(places))]
                loads = [sum(sizes[piece] for piece in pieces) for pieces in boxes]
                if self.accepts(boxes, 4, sizes):
                    self.assertEqual(len(boxes), best)
                    self.assertLessEqual(max(loads), 4)
                elif max(loads) <= 4:
                    self.assertGreater(sum(load < 4 for load in loads), 1)

    def test_arguments_stay_as_they_are(self):
        boxes = [[3, 2], [5, 1], [4], [0]]
        sizes = list(self.SIZES)
        accepts_packing(4, sizes, boxes)
        self.assertEqual((sizes, boxes), (self.SIZES, [[3, 2], [5, 1], [4], [0]]))


if __name__ == "__main__":
    unittest.main()
