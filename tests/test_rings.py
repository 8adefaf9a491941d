"""Obstacles and rings: point 16."""

import inspect
import itertools
import random
import unittest

from answers import LARGE
from ownlabels.errors import BadSize
from ownlabels.numbering import Numbering
from ownlabels.rings import obstacle, ring
from plainly import some_places

BAD_COUNTS = [0, -1, -2, -1000, 1001, 1002, 2000, LARGE, -LARGE, 10 ** 60 - 1, 1 - 10 ** 60]


def least_obstacle(workers, cells, capacity):
    divisors = [size for size in range(1, cells + 1) if cells % size == 0]
    return min((size for size in divisors if capacity < size <= workers), default=0)


class ObstacleTest(unittest.TestCase):
    def test_the_example_of_the_document(self):
        self.assertEqual(obstacle(4, 12, capacity=2), 3)

    def test_by_hand(self):
        for workers, cells, capacity, least in (
                (1, 1, 1, 0), (2, 1, 1, 0), (1, 2, 1, 0), (2, 2, 1, 2), (2, 2, 2, 0), (2, 3, 1, 0),
                (3, 3, 1, 3), (3, 3, 2, 3), (3, 3, 3, 0), (6, 4, 1, 2), (6, 4, 2, 4), (6, 4, 3, 4),
                (6, 4, 4, 0), (3, 4, 2, 0), (6, 12, 1, 2), (6, 12, 2, 3), (6, 12, 3, 4), (6, 12, 4, 6),
                (6, 12, 5, 6), (6, 12, 6, 0), (5, 12, 4, 0), (6, 11, 1, 0), (6, 7, 1, 0), (6, 5, 1, 5)):
            with self.subTest(workers=workers, cells=cells, capacity=capacity):
                self.assertEqual(obstacle(workers, cells, capacity), least)
                self.assertEqual(obstacle(workers, cells, capacity=capacity), least)

    def test_against_all_divisors(self):
        for workers, cells, capacity in itertools.product(range(1, 25), range(1, 61), range(1, 25)):
            self.assertEqual(obstacle(workers, cells, capacity), least_obstacle(workers, cells, capacity))

    def test_capacity_1_where_none_is_passed(self):
        self.assertEqual(str(inspect.signature(obstacle)), "(workers, cells, capacity=1)")
        for workers, cells in itertools.product(range(1, 20), range(1, 40)):
            self.assertEqual(obstacle(workers, cells), least_obstacle(workers, cells, 1))

    def test_large_numbers(self):
        for workers, cells, capacity, least in (
                (1000, 1000, 1, 2), (1000, 1000, 999, 1000), (1000, 1000, 500, 1000),
                (1000, 1000, 499, 500), (1000, 1000, 1000, 0), (999, 1000, 500, 0), (1000, 997, 1, 997),
                (996, 997, 1, 0), (1000, 999, 27, 37), (1000, 1, 1, 0), (1, 1000, 1, 0),
                (1, 1, 1000, 0), (1000, 994, 993, 994), (1000, 2, 1, 2), (2, 1000, 1, 2)):
            with self.subTest(workers=workers, cells=cells, capacity=capacity):
                self.assertEqual(obstacle(workers, cells, capacity), least)

    def test_kind_of_value(self):
        for value in (obstacle(4, 12, 2), obstacle(1, 1)):
            self.assertIs(type(value), int)

    def test_bad_sizes(self):
        for bad in BAD_COUNTS:
            for good in (1, 2, 12, 1000):
                for call in (lambda: obstacle(bad, good), lambda: obstacle(good, bad),
                             lambda: obstacle(bad, good, 1), lambda: obstacle(good, bad, 3),
                             lambda: obstacle(good, good, bad), lambda: obstacle(good, 1, capacity=bad),
                             lambda: obstacle(bad, bad, bad)):
                    with self.subTest(bad=bad, good=good), self.assertRaises(BadSize):
                        call()

    def test_the_limits_themselves(self):
        for count in (1, 1000):
            for numbers in ((count, 6, 2), (6, count, 2), (6, 6, count)):
                self.assertEqual(obstacle(*numbers), least_obstacle(*numbers))


class RingTest(unittest.TestCase):
    def places(self, base, size):
        return [numbering.places for numbering in ring(base, size)]

    def test_by_hand(self):
        self.assertEqual(self.places(Numbering([0, 1]), 2), [(0, 1), (1, 0)])
        self.assertEqual(self.places(Numbering([0, 1, 2]), 3), [(0, 1, 2), (1, 2, 0), (2, 0, 1)])
        base = Numbering([3, 0, 5, 1, 4, 2])
        self.assertEqual(self.places(base, 1), [(3, 0, 5, 1, 4, 2)])
        self.assertEqual(self.places(base, 2), [(3, 0, 5, 1, 4, 2), (0, 3, 2, 4, 1, 5)])
        self.assertEqual(self.places(base, 3),
                         [(3, 0, 5, 1, 4, 2), (5, 2, 1, 3, 0, 4), (1, 4, 3, 5, 2, 0)])
        self.assertEqual(self.places(base, 6)[1], (4, 1, 0, 2, 5, 3))

    def test_every_divisor(self):
        chance = random.Random(91)
        for cells in range(1, 13):
            for size in range(1, cells + 1):
                if cells % size == 0:
                    base = Numbering(some_places(chance, cells))
                    found = ring(base, size)
                    self.assertIs(type(found), tuple)
                    self.assertEqual([type(numbering) for numbering in found], [Numbering] * size)
                    self.assertEqual(found[0], base)
                    for i, numbering in enumerate(found):
                        for k in range(cells):
                            self.assertEqual(numbering(k), (base(k) + i * cells // size) % cells)

    def test_size_1_and_as_many_as_cells(self):
        for cells in range(1, 13):
            plain = Numbering.plain(cells)
            self.assertEqual(ring(plain, 1), (plain,))
            self.assertEqual(ring(plain, cells), tuple(Numbering.turn(cells, by) for by in range(cells)))

    def test_bad_sizes(self):
        for cells in range(1, 13):
            for size in [*range(-14, 30), *BAD_COUNTS, 12 * LARGE // 10, 60, 120]:
                if size not in range(1, cells + 1) or cells % size:
                    with self.subTest(cells=cells, size=size), self.assertRaises(BadSize):
                        ring(Numbering.plain(cells), size)

    def test_the_base_as_it_was(self):
        base = Numbering([2, 0, 3, 1])
        for size in (1, 2, 4):
            first, second = ring(base, size), ring(base, size)
            self.assertEqual(first, second)
            self.assertEqual(base.places, (2, 0, 3, 1))
        with self.assertRaises(BadSize):
            ring(base, 3)
        self.assertEqual(base.places, (2, 0, 3, 1))


if __name__ == "__main__":
    unittest.main()
