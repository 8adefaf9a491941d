"""Numberings: points 1, 2 and 3 and the interface of ownlabels/numbering.py."""

import inspect
import itertools
import random
import unittest

from ownlabels.errors import BadNumbering, BadSize, NoCell
from ownlabels.numbering import Numbering, every_numbering

LARGE = 10 ** 60 - 1
TWELVE = [7, 0, 11, 3, 9, 1, 10, 2, 4, 8, 6, 5]
# Cycles of 3, 4 and 5 cells: only the 60th power is plain.
CYCLES = [1, 2, 0, 4, 5, 6, 3, 8, 9, 10, 11, 7]
SHORT_EXPONENTS = list(range(-13, 14))
LONG_EXPONENTS = [10 ** 59, 10 ** 59 + 1, LARGE, LARGE - 1, 123456789 ** 7, 2 ** 199, 2 ** 199 - 1]


def all_places(cells):
    return list(itertools.permutations(range(cells)))


def samples():
    """Numberings of all numbers of cells, the same ones in each run."""
    chance = random.Random(7)
    rows = [places for cells in range(1, 5) for places in all_places(cells)]
    for cells in range(5, 13):
        for _ in range(4):
            places = list(range(cells))
            chance.shuffle(places)
            rows.append(tuple(places))
    return [*rows, tuple(TWELVE), tuple(CYCLES)]


def powered(places, n):
    """The power, found by walking along the cycle of each cell."""
    result = []
    for k in range(len(places)):
        cycle = [k]
        while places[cycle[-1]] != k:
            cycle.append(places[cycle[-1]])
        result.append(cycle[n % len(cycle)])
    return tuple(result)


class MakingTest(unittest.TestCase):
    def test_from_a_list(self):
        for places in ([0], TWELVE):
            with self.subTest(places=places):
                given = list(places)
                numbering = Numbering(given)
                self.assertEqual(given, places)
                self.assertIs(type(given), list)
                self.assertEqual(numbering.places, tuple(places))
                self.assertIs(type(numbering.places), tuple)

    def test_from_a_tuple(self):
        for places in ([0], TWELVE):
            with self.subTest(places=places):
                numbering = Numbering(tuple(places))
                self.assertEqual(numbering.places, tuple(places))
                self.assertIs(type(numbering.places), tuple)

    def test_every_sample(self):
        for places in samples():
            with self.subTest(places=places):
                self.assertEqual(Numbering(list(places)).places, places)
                self.assertEqual(Numbering(places).places, places)

    def test_later_changes_of_the_list_have_no_effect(self):
        for places in ([0], TWELVE):
            with self.subTest(places=places):
                given = list(places)
                numbering = Numbering(given)
                given[0] = 99
                given.append(5)
                self.assertEqual(numbering.places, tuple(places))
                self.assertEqual(numbering(0), places[0])
                self.assertEqual(len(numbering), len(places))
                self.assertEqual(list(numbering), places)

    def test_most(self):
        self.assertEqual(Numbering.MOST, 12)
        self.assertEqual(Numbering([0]).MOST, 12)
        self.assertNotIn("MOST", vars(Numbering([0])))


class BadPlacesTest(unittest.TestCase):
    BAD = {
        "empty": [],
        "13 entries": list(range(13)),
        "14 entries": list(range(14)),
        "200 entries": list(range(200)),
        "13 entries, the last ones twice": [*range(12), 11],
        "an entry twice": [0, 1, 1],
        "an entry twice of 12": [*TWELVE[:11], 7],
        "all entries the same": [0, 0, 0, 0],
        "one missing": [0, 2],
        "the first one missing": [1, 2, 3],
        "-1 alone": [-1],
        "-1": [-1, 0, 1],
        "-1 behind": [1, 0, -1],
        "the number of cells alone": [1],
        "the number of cells": [0, 1, 3],
        "the number of 12 cells": [12, *range(11)],
        "the right sum, one entry three times": [1, 1, 1],
        "the right sum, entries out of range": [-1, 1, 3],
        "the right sum, two entries out of range": [-1, 0, 3, 4],
        "the right sum, a large entry": [LARGE, 0, 3 - LARGE],
        "the right sum and product": [0, -1, 4],
        "a large entry": [0, LARGE],
        "a large negative entry": [-LARGE, 1],
    }

    def test_list(self):
        for name, places in self.BAD.items():
            with self.subTest(name=name):
                given = list(places)
                with self.assertRaises(BadNumbering) as caught:
                    Numbering(given)
                self.assertIs(type(caught.exception), BadNumbering)
                self.assertEqual(given, places)

    def test_tuple(self):
        for name, places in self.BAD.items():
            with self.subTest(name=name), self.assertRaises(BadNumbering):
                Numbering(tuple(places))

    def test_all_short_lists_of_small_integers(self):
        for cells in range(1, 4):
            for places in itertools.product(range(-2, 5), repeat=cells):
                if sorted(places) == list(range(cells)):
                    self.assertEqual(Numbering(list(places)).places, places)
                else:
                    with self.subTest(places=places), self.assertRaises(BadNumbering):
                        Numbering(list(places))


class CallTest(unittest.TestCase):
    def test_own_cells(self):
        for places in samples():
            numbering = Numbering(places)
            self.assertEqual(tuple([numbering(k) for k in range(len(places))]), places)

    def test_no_cell(self):
        for places in ([0], [2, 0, 1], TWELVE):
            cells = len(places)
            for k in (-1, -2, -cells, -cells - 1, cells, cells + 1, 2 * cells, LARGE, -LARGE):
                with self.subTest(cells=cells, k=k):
                    numbering = Numbering(places)
                    with self.assertRaises(NoCell) as caught:
                        numbering(k)
                    self.assertEqual(caught.exception.cell, k)
                    self.assertIs(type(caught.exception), NoCell)


class SequenceTest(unittest.TestCase):
    def test_length(self):
        for cells in range(1, 13):
            self.assertEqual(len(Numbering(list(range(cells)))), cells)

    def test_iterating_twice(self):
        for places in samples():
            numbering = Numbering(places)
            self.assertEqual([place for place in numbering], list(places))
            self.assertEqual(tuple(numbering), places)

    def test_two_loops_one_within_the_other(self):
        for places in ((0,), (2, 0, 1), tuple(TWELVE)):
            numbering = Numbering(places)
            seen = []
            for outer in numbering:
                for inner in numbering:
                    seen.append((outer, inner))
            self.assertEqual(seen, list(itertools.product(places, places)))


class ProductTest(unittest.TestCase):
    def test_the_example_of_the_document(self):
        self.assertEqual((Numbering([1, 2, 0]) * Numbering([0, 2, 1])).places, (1, 0, 2))

    def check(self, first, second):
        a = Numbering(first)
        b = Numbering(second)
        product = a * b
        self.assertIs(type(product), Numbering)
        self.assertIs(type(product.places), tuple)
        self.assertEqual([product(k) for k in range(len(first))], [a(b(k)) for k in range(len(first))])
        self.assertEqual((a.places, b.places), (first, second))

    def test_definition_for_up_to_4_cells(self):
        for cells in range(1, 5):
            for first in all_places(cells):
                for second in all_places(cells):
                    self.check(first, second)

    def test_definition_for_more_cells(self):
        rows = samples()
        for first in rows:
            for second in rows:
                if len(first) == len(second) > 4:
                    self.check(first, second)

    def test_with_itself(self):
        a = Numbering(TWELVE)
        self.assertEqual((a * a).places, tuple([a(a(k)) for k in range(12)]))
        self.assertEqual(a.places, tuple(TWELVE))

    def test_different_numbers_of_cells(self):
        for cells in range(1, 13):
            for others in range(1, 13):
                if cells != others:
                    with self.subTest(cells=cells, others=others):
                        a = Numbering(list(range(cells)))
                        b = Numbering(list(range(others)))
                        with self.assertRaises(BadNumbering) as caught:
                            a * b
                        self.assertIs(type(caught.exception), BadNumbering)
                        self.assertEqual((len(a), len(b)), (cells, others))


class InverseTest(unittest.TestCase):
    def test_from_both_sides(self):
        for places in samples():
            with self.subTest(places=places):
                a = Numbering(places)
                plain = tuple(range(len(places)))
                inverse = ~a
                self.assertIs(type(inverse), Numbering)
                self.assertIs(type(inverse.places), tuple)
                self.assertEqual((inverse * a).places, plain)
                self.assertEqual((a * inverse).places, plain)
                self.assertEqual((~inverse).places, places)
                self.assertEqual(a.places, places)

    def test_places(self):
        self.assertEqual((~Numbering([1, 2, 0])).places, (2, 0, 1))
        self.assertEqual((~Numbering([3, 0, 1, 2])).places, (1, 2, 3, 0))


class PowerTest(unittest.TestCase):
    def test_against_repeated_products(self):
        for places in samples():
            with self.subTest(places=places):
                a = Numbering(places)
                inverse = ~a
                up = down = Numbering(list(range(len(places))))
                for n in range(14):
                    self.assertEqual(a.power(n).places, up.places)
                    self.assertEqual(a.power(-n).places, down.places)
                    self.assertEqual(inverse.power(n).places, down.places)
                    up = a * up
                    down = inverse * down
                self.assertEqual(a.places, places)

    def test_0_1_and_minus_1(self):
        for places in samples():
            a = Numbering(places)
            self.assertEqual(a.power(0).places, tuple(range(len(places))))
            self.assertEqual(a.power(1).places, places)
            self.assertEqual(a.power(-1).places, (~a).places)

    def test_against_the_cycles(self):
        for places in samples():
            a = Numbering(places)
            for n in [*SHORT_EXPONENTS, *LONG_EXPONENTS]:
                for exponent in (n, -n):
                    with self.subTest(places=places, exponent=exponent):
                        power = a.power(exponent)
                        self.assertIs(type(power), Numbering)
                        self.assertEqual(power.places, powered(places, exponent))
            self.assertEqual(a.places, places)

    def test_order_60(self):
        a = Numbering(CYCLES)
        plain = tuple(range(12))
        self.assertEqual([n for n in range(1, 61) if a.power(n).places == plain], [60])
        self.assertEqual(a.power(6 * 10 ** 58).places, plain)
        self.assertEqual(a.power(6 * 10 ** 58 + 1).places, a.places)
        self.assertEqual(a.power(-6 * 10 ** 58 - 1).places, (~a).places)

    def test_sign_with_0_to_64(self):
        for places in ((0,), (1, 0), (2, 0, 1), tuple(TWELVE), tuple(CYCLES)):
            a = Numbering(places)
            for n in range(65):
                with self.subTest(places=places, n=n):
                    power = a ** n
                    self.assertIs(type(power), Numbering)
                    self.assertEqual(power.places, powered(places, n))
                    self.assertEqual(power.places, a.power(n).places)
            self.assertEqual(a.places, places)


class ComparisonTest(unittest.TestCase):
    def test_as_the_tuples_compare(self):
        rows = [places for cells in range(1, 5) for places in all_places(cells)]
        for first in rows:
            for second in rows:
                a = Numbering(first)
                b = Numbering(list(second))
                self.assertIs(a == b, first == second)
                self.assertIs(a != b, first != second)
                self.assertIs(a < b, first < second)

    def test_12_cells(self):
        a = Numbering(TWELVE)
        b = Numbering([*TWELVE[:10], TWELVE[11], TWELVE[10]])
        self.assertIs(a == Numbering(tuple(TWELVE)), True)
        self.assertIs(a != Numbering(tuple(TWELVE)), False)
        self.assertIs(a < Numbering(tuple(TWELVE)), False)
        self.assertEqual([a == b, a != b, a < b, b < a], [False, True, False, True])

    def test_different_numbers_of_cells(self):
        one = Numbering([0])
        two = Numbering([1, 0])
        three = Numbering([0, 2, 1])
        self.assertEqual([one == three, one != three], [False, True])
        self.assertEqual([one < two, one < three, three < two, two < three], [True, True, True, False])
        self.assertEqual([two < one, three < one], [False, False])

    def test_operands_are_unchanged(self):
        a = Numbering([1, 0, 2])
        b = Numbering([1, 2, 0])
        for _ in (a == b, a != b, a < b, b < a):
            self.assertEqual((a.places, b.places), ((1, 0, 2), (1, 2, 0)))


class PlainAndTurnTest(unittest.TestCase):
    BAD_SIZES = [0, 13, 14, -1, -12, 1000, LARGE, -LARGE]

    def test_plain(self):
        for cells in range(1, 13):
            plain = Numbering.plain(cells)
            self.assertIs(type(plain), Numbering)
            self.assertEqual(plain.places, tuple(range(cells)))

    def test_turn(self):
        shifts = [*range(-30, 31), 10 ** 57, 10 ** 58 - 1, -(10 ** 57), 1 - 10 ** 58, LARGE, -LARGE]
        for cells in range(1, 13):
            for by in shifts:
                with self.subTest(cells=cells, by=by):
                    turn = Numbering.turn(cells, by)
                    self.assertIs(type(turn), Numbering)
                    self.assertEqual(turn.places, tuple([(k + by) % cells for k in range(cells)]))

    def test_turn_by_one_and_back(self):
        self.assertEqual(Numbering.turn(4, 1).places, (1, 2, 3, 0))
        self.assertEqual(Numbering.turn(4, -1).places, (3, 0, 1, 2))
        self.assertEqual(Numbering.turn(12, 12).places, tuple(range(12)))

    def test_bad_sizes(self):
        for cells in self.BAD_SIZES:
            with self.subTest(cells=cells):
                with self.assertRaises(BadSize) as caught:
                    Numbering.plain(cells)
                self.assertIs(type(caught.exception), BadSize)
            for by in (0, 1, -1, 10 ** 57):
                with self.subTest(cells=cells, by=by):
                    with self.assertRaises(BadSize) as caught:
                        Numbering.turn(cells, by)
                    self.assertIs(type(caught.exception), BadSize)


class EveryNumberingTest(unittest.TestCase):
    def test_all_each_once_ascending(self):
        for cells in range(1, 7):
            found = list(every_numbering(cells))
            self.assertEqual([numbering.places for numbering in found], all_places(cells))
            for numbering in found:
                self.assertIs(type(numbering), Numbering)

    def test_ascending_by_the_order_of_numberings(self):
        found = list(every_numbering(4))
        for first, second in zip(found, found[1:]):
            self.assertIs(first < second, True)

    def test_each_is_an_object_of_its_own(self):
        for cells in range(1, 7):
            found = list(every_numbering(cells))
            self.assertEqual(len({id(numbering) for numbering in found}), len(found))

    def test_is_a_generator(self):
        self.assertTrue(inspect.isgenerator(every_numbering(3)))

    def test_two_at_a_time(self):
        seen = [(a.places, b.places) for a in every_numbering(3) for b in every_numbering(3)]
        self.assertEqual(seen, list(itertools.product(all_places(3), repeat=2)))

    def test_bad_size_only_when_iterated(self):
        for cells in (0, 7, 8, 12, 13, -1, -6, LARGE, -LARGE):
            with self.subTest(cells=cells):
                made = every_numbering(cells)
                with self.assertRaises(BadSize) as caught:
                    next(made)
                self.assertIs(type(caught.exception), BadSize)


if __name__ == "__main__":
    unittest.main()
