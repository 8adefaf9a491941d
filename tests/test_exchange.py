"""Exchanging, renaming and forms: points 10 and 11."""

import copy
import inspect
import itertools
import random
import unittest

from ownlabels.errors import BadNumbering
from ownlabels.numbering import Numbering
from ownlabels.program import Program, standard_program
from ownlabels.system import System, exchange, rename
from plainly import samples, some_places, stepped

LARGE = 10 ** 60 - 1
PROGRAM = Program.read("rest; take; room; give*")
THREE = [Numbering([2, 0, 1]), Numbering([0, 1, 2]), Numbering([1, 0, 2])]
STATE = ((2, 0, 3), ((1, 0), (2, 1), (3, 2)))


def made(instructions, all_places, capacity):
    return System(Program(instructions), [Numbering(places) for places in all_places], capacity)


def places_of(system):
    return [numbering.places for numbering in system.numberings]


def some_order(chance, workers):
    order = list(range(1, workers + 1))
    chance.shuffle(order)
    return order


def exchanged_by_hand(state, order):
    """Point 10, word by word."""
    contents, spots = state
    after = list(spots)
    for i in range(1, len(spots) + 1):
        after[order[i - 1] - 1] = spots[i - 1]
    return (tuple(order[content - 1] if content else 0 for content in contents), tuple(after))


def renamed_by_hand(state, places):
    contents, spots = state
    after = list(contents)
    for place, content in enumerate(contents):
        after[places[place]] = content
    return (tuple(after), spots)


def form_by_hand(all_places, state):
    """The least triple of point 11 over all orders."""
    triples = []
    for order in itertools.permutations(range(1, len(all_places) + 1)):
        contents, spots = exchanged_by_hand(state, order)
        rows = list(all_places)
        for i, number in enumerate(order):
            rows[number - 1] = all_places[i]
        back = [rows[0].index(place) for place in range(len(contents))]
        places = tuple(tuple(back[place] for place in row) for row in rows)
        triples.append((places, renamed_by_hand((contents, spots), back)[0], spots))
    return min(triples)


class ExchangeTest(unittest.TestCase):
    # Worker 1 becomes 2, worker 2 becomes 3, worker 3 becomes 1.
    ORDER = [2, 3, 1]

    def test_state_by_hand(self):
        for order in (self.ORDER, tuple(self.ORDER)):
            self.assertEqual(exchange(STATE, order), ((3, 0, 1), ((3, 2), (1, 0), (2, 1))))

    def test_system_by_hand(self):
        for order in (self.ORDER, tuple(self.ORDER)):
            system = System(PROGRAM, THREE, 2).exchanged(order)
            self.assertEqual(places_of(system), [(1, 0, 2), (2, 0, 1), (0, 1, 2)])

    def test_kinds_of_values(self):
        after = exchange(STATE, self.ORDER)
        self.assertEqual([type(part) for part in (after, *after, *after[1])], [tuple] * 6)
        system = System(PROGRAM, THREE).exchanged(self.ORDER)
        self.assertIs(type(system), System)
        self.assertIs(type(system.numberings), tuple)
        self.assertEqual([type(numbering) for numbering in system.numberings], [Numbering] * 3)

    def test_program_and_capacity_are_kept(self):
        for capacity in range(1, 7):
            system = System(PROGRAM, THREE, capacity).exchanged(self.ORDER)
            self.assertIs(system.program, PROGRAM)
            self.assertEqual((system.workers, system.cells, system.capacity), (3, 3, capacity))

    def test_what_is_passed_stays_as_it_was(self):
        system = System(PROGRAM, THREE, 2)
        order = list(self.ORDER)
        state = copy.deepcopy(STATE)
        after = exchange(state, order)
        other = system.exchanged(order)
        self.assertEqual((order, state), (self.ORDER, STATE))
        self.assertEqual(places_of(system), [numbering.places for numbering in THREE])
        order[0] = 1
        order.append(7)
        self.assertEqual(after, ((3, 0, 1), ((3, 2), (1, 0), (2, 1))))
        self.assertEqual(places_of(other), [(1, 0, 2), (2, 0, 1), (0, 1, 2)])

    def test_every_order(self):
        chance = random.Random(21)
        for workers in range(1, 6):
            all_places = [some_places(chance, 4) for _ in range(workers)]
            state = (tuple(chance.randint(0, workers) for _ in range(4)),
                     tuple((number, number % 4) for number in range(1, workers + 1)))
            system = made(["rest"] * 8, all_places, 1)
            for order in itertools.permutations(range(1, workers + 1)):
                after = exchange(state, order)
                self.assertEqual(after, exchanged_by_hand(state, order))
                places = places_of(system.exchanged(order))
                for i in range(workers):
                    self.assertEqual(places[order[i] - 1], all_places[i])
                    self.assertEqual(after[1][order[i] - 1], state[1][i])

    def test_there_and_back(self):
        chance = random.Random(22)
        for instructions, all_places, capacity, state in samples(22, 150):
            system = made(instructions, all_places, capacity)
            order = some_order(chance, system.workers)
            back = [order.index(number) + 1 for number in range(1, system.workers + 1)]
            self.assertEqual(exchange(exchange(state, order), back), state)
            self.assertEqual(places_of(system.exchanged(order).exchanged(back)), all_places)
            plain = range(1, system.workers + 1)
            self.assertEqual(exchange(state, list(plain)), state)
            self.assertEqual(places_of(system.exchanged(tuple(plain))), all_places)

    def test_a_step_commutes(self):
        chance = random.Random(23)
        for instructions, all_places, capacity, state in samples(23, 300):
            system = made(instructions, all_places, capacity)
            order = some_order(chance, system.workers)
            other = system.exchanged(order)
            for worker in range(1, system.workers + 1):
                after = other.step(exchange(state, order), order[worker - 1])
                self.assertEqual(after, exchange(system.step(state, worker), order))

    def test_who_is_where(self):
        system = System(PROGRAM, THREE)
        after = exchange(STATE, self.ORDER)
        self.assertEqual(system.inside(STATE), (2,))
        self.assertEqual(system.exchanged(self.ORDER).inside(after), (3,))


class RenameTest(unittest.TestCase):
    # Place 0 becomes 1, place 1 becomes 2, place 2 becomes 0.
    NUMBERING = Numbering([1, 2, 0])

    def test_state_by_hand(self):
        self.assertEqual(rename(STATE, self.NUMBERING), ((3, 2, 0), ((1, 0), (2, 1), (3, 2))))

    def test_system_by_hand(self):
        system = System(PROGRAM, THREE, 2).renamed(self.NUMBERING)
        self.assertEqual(places_of(system), [(0, 1, 2), (1, 2, 0), (2, 1, 0)])

    def test_kinds_of_values(self):
        after = rename(STATE, self.NUMBERING)
        self.assertEqual([type(part) for part in (after, *after, *after[1])], [tuple] * 6)
        system = System(PROGRAM, THREE).renamed(self.NUMBERING)
        self.assertIs(type(system), System)
        self.assertIs(type(system.numberings), tuple)
        self.assertEqual([type(numbering) for numbering in system.numberings], [Numbering] * 3)

    def test_program_and_capacity_are_kept(self):
        for capacity in range(1, 7):
            system = System(PROGRAM, THREE, capacity).renamed(self.NUMBERING)
            self.assertIs(system.program, PROGRAM)
            self.assertEqual((system.workers, system.cells, system.capacity), (3, 3, capacity))

    def test_what_is_passed_stays_as_it_was(self):
        system = System(PROGRAM, THREE, 2)
        state = copy.deepcopy(STATE)
        rename(state, self.NUMBERING)
        system.renamed(self.NUMBERING)
        self.assertEqual(state, STATE)
        self.assertEqual(self.NUMBERING.places, (1, 2, 0))
        self.assertEqual(places_of(system), [(2, 0, 1), (0, 1, 2), (1, 0, 2)])

    def test_every_numbering(self):
        chance = random.Random(31)
        for cells in range(1, 6):
            all_places = [some_places(chance, cells) for _ in range(3)]
            state = (tuple(chance.randint(0, 3) for _ in range(cells)), ((0, 0),) * 3)
            system = made(["rest"], all_places, 1)
            for places in itertools.permutations(range(cells)):
                after = rename(state, Numbering(places))
                for place in range(cells):
                    self.assertEqual(after[0][places[place]], state[0][place])
                self.assertEqual(after[1], state[1])
                renamed = places_of(system.renamed(Numbering(places)))
                for old, new in zip(all_places, renamed):
                    self.assertEqual(new, tuple(places[place] for place in old))

    def test_there_and_back(self):
        chance = random.Random(32)
        for instructions, all_places, capacity, state in samples(32, 150):
            system = made(instructions, all_places, capacity)
            numbering = Numbering(some_places(chance, system.cells))
            back = ~numbering
            self.assertEqual(rename(rename(state, numbering), back), state)
            self.assertEqual(places_of(system.renamed(numbering).renamed(back)), all_places)
            plain = Numbering.plain(system.cells)
            self.assertEqual(rename(state, plain), state)
            self.assertEqual(places_of(system.renamed(plain)), all_places)

    def test_a_step_commutes(self):
        chance = random.Random(33)
        for instructions, all_places, capacity, state in samples(33, 300):
            system = made(instructions, all_places, capacity)
            numbering = Numbering(some_places(chance, system.cells))
            other = system.renamed(numbering)
            for worker in range(1, system.workers + 1):
                after = other.step(rename(state, numbering), worker)
                self.assertEqual(after, rename(system.step(state, worker), numbering))

    def test_the_two_commute(self):
        chance = random.Random(34)
        for instructions, all_places, capacity, state in samples(34, 100):
            system = made(instructions, all_places, capacity)
            numbering = Numbering(some_places(chance, system.cells))
            order = some_order(chance, system.workers)
            self.assertEqual(rename(exchange(state, order), numbering),
                             exchange(rename(state, numbering), order))
            self.assertEqual(places_of(system.renamed(numbering).exchanged(order)),
                             places_of(system.exchanged(order).renamed(numbering)))


class BadTest(unittest.TestCase):
    ORDERS = {
        3: [[], [1], [1, 2], [2, 1], [1, 2, 3, 4], [3, 2, 1, 1], [1, 1, 2], [1, 2, 2], [3, 3, 3],
            [2, 2, 2], [0, 1, 2], [1, 2, 0], [1, 2, 4], [4, 3, 2], [0, 2, 4], [-1, 3, 4], [1, 0, 5],
            [-1, -2, -3], [1, 2, 3, 0], [0, 1, 2, 3], [1, 2, 3, 3], [1, 2, LARGE],
            [LARGE, 2, 4 - LARGE], [1, 1, 4], [3, 0, 3]],
        1: [[], [0], [2], [-1], [1, 1], [1, 2], [LARGE]],
        2: [[1], [2], [1, 1], [2, 2], [0, 3], [3, 0], [1, 2, 3], [0, 1], [-1, 4]],
        6: [[1, 2, 3, 4, 5], [1, 2, 3, 4, 5, 5], [1, 2, 3, 4, 5, 7], [0, 1, 2, 3, 4, 5],
            [1, 2, 3, 4, 5, 6, 7], [6, 5, 4, 3, 2, 2], [0, 2, 3, 4, 5, 7], [2, 2, 3, 4, 5, 5]],
    }

    def refuse(self, ask):
        with self.assertRaises(BadNumbering) as caught:
            ask()
        self.assertIs(type(caught.exception), BadNumbering)

    def test_orders(self):
        for workers, orders in self.ORDERS.items():
            numberings = [Numbering.turn(3, by) for by in range(workers)]
            system = System(PROGRAM, numberings)
            for order in orders:
                given = list(order)
                with self.subTest(workers=workers, order=order):
                    for kind in (given, tuple(order)):
                        self.refuse(lambda: system.exchanged(kind))
                        self.refuse(lambda: exchange(system.start(), kind))
                    self.assertEqual(given, order)
                    self.assertEqual(places_of(system), [n.places for n in numberings])

    def test_numberings_of_another_number_of_cells(self):
        for cells, other in itertools.product(range(1, 13), repeat=2):
            if cells != other:
                system = System(PROGRAM, [Numbering.plain(cells)] * 2)
                with self.subTest(cells=cells, other=other):
                    self.refuse(lambda: system.renamed(Numbering.plain(other)))
                    self.refuse(lambda: rename(system.start(), Numbering.plain(other)))


class FormTest(unittest.TestCase):
    def test_by_hand(self):
        system = System(PROGRAM, [Numbering([1, 0]), Numbering([0, 1])])
        # Both orders give the numberings (0, 1) and (1, 0), so that the contents decide.
        self.assertEqual(system.form(((1, 0), ((2, 1), (0, 0)))),
                         (((0, 1), (1, 0)), (0, 1), ((2, 1), (0, 0))))
        self.assertEqual(system.form(((2, 0), ((0, 0), (2, 1)))),
                         (((0, 1), (1, 0)), (0, 2), ((0, 0), (2, 1))))
        # Where the contents are the same, the spots decide.
        self.assertEqual(system.form(((0, 0), ((1, 0), (0, 0)))),
                         (((0, 1), (1, 0)), (0, 0), ((0, 0), (1, 0))))

    def test_one_worker(self):
        system = System(PROGRAM, [Numbering([2, 0, 1])])
        self.assertEqual(system.form(((1, 0, 0), ((2, 1),))), (((0, 1, 2),), (0, 1, 0), ((2, 1),)))

    def test_kinds_of_values(self):
        form = System(PROGRAM, THREE).form(STATE)
        parts = [form, *form, *form[0], *form[2]]
        self.assertEqual([type(part) for part in parts], [tuple] * len(parts))
        self.assertEqual(len(form), 3)

    def test_the_least_over_all_orders(self):
        for instructions, all_places, capacity, state in samples(41, 60):
            system = made(instructions, all_places, capacity)
            self.assertEqual(system.form(state), form_by_hand(all_places, state))
            self.assertEqual(places_of(system), all_places)

    def test_workers_with_the_same_numberings(self):
        chance = random.Random(42)
        for instructions, all_places, capacity, state in samples(42, 60):
            few = [all_places[0], all_places[-1]]
            all_places = [chance.choice(few) for _ in all_places]
            system = made(instructions, all_places, capacity)
            self.assertEqual(system.form(state), form_by_hand(all_places, state))

    def test_six_workers_in_a_ring(self):
        program = standard_program()
        system = System(program, [Numbering.turn(12, 2 * i) for i in range(6)])
        states = list(system.run([3, 5, 3, 3, 1, 5, 5, 2, 6, 6, 4, 4, 4, 5]))
        for state in states[::4]:
            self.assertEqual(system.form(state), form_by_hand(places_of(system), state))

    def test_the_same_for_exchanged_and_renamed(self):
        chance = random.Random(43)
        for instructions, all_places, capacity, state in samples(43, 60):
            system = made(instructions, all_places, capacity)
            order = some_order(chance, system.workers)
            numbering = Numbering(some_places(chance, system.cells))
            form = system.form(state)
            self.assertEqual(system.exchanged(order).form(exchange(state, order)), form)
            self.assertEqual(system.renamed(numbering).form(rename(state, numbering)), form)
            both = system.renamed(numbering).exchanged(order)
            self.assertEqual(both.form(exchange(rename(state, numbering), order)), form)

    def test_different_for_states_that_do_not_become_each_other(self):
        # All pairs of a small system, against all exchanges and renamings of the first.
        for all_places in ([(0, 1), (1, 0)], [(0, 1), (0, 1)], [(1, 0), (1, 0)]):
            system = made(["rest", "take"], all_places, 1)
            spots = list(itertools.product(range(2), range(2)))
            states = [(contents, pair) for contents in itertools.product(range(3), repeat=2)
                      for pair in itertools.product(spots, repeat=2)]
            forms = {state: system.form(state) for state in states}
            for state in states:
                family = self.family(system, state)
                for other in states:
                    same = (tuple(places_of(system)), other) in family
                    self.assertEqual(forms[state] == forms[other], same)

    def family(self, system, state):
        """All systems and states that this one becomes."""
        result = set()
        for order in itertools.permutations(range(1, system.workers + 1)):
            for places in itertools.permutations(range(system.cells)):
                other = system.exchanged(order).renamed(Numbering(places))
                after = rename(exchange(state, order), Numbering(places))
                result.add((tuple(places_of(other)), after))
        return result

    def test_different_numberings(self):
        start = System(PROGRAM, THREE[:2]).start()
        forms = {System(PROGRAM, [Numbering.plain(3), Numbering(places)]).form(start)
                 for places in itertools.permutations(range(3))}
        # The turns by 1 and by 2 are inverses, so they become each other.
        self.assertEqual(len(forms), 5)

    def test_the_state_stays_as_it_was(self):
        system = System(PROGRAM, THREE)
        state = copy.deepcopy(STATE)
        self.assertEqual(system.form(state), system.form(state))
        self.assertEqual(state, STATE)

    def test_steps_of_equal_forms_have_equal_forms(self):
        chance = random.Random(44)
        for instructions, all_places, capacity, state in samples(44, 25):
            system = made(instructions, all_places, capacity)
            order = some_order(chance, system.workers)
            other = system.exchanged(order)
            after = stepped(instructions, all_places, capacity, state, 1)
            exchanged = other.step(exchange(state, order), order[0])
            self.assertEqual(other.form(exchanged), system.form(after))


class SignatureTest(unittest.TestCase):
    def test_signatures(self):
        for function, text in ((exchange, "(state, order)"), (rename, "(state, numbering)"),
                               (System.exchanged, "(self, order)"), (System.form, "(self, state)"),
                               (System.renamed, "(self, numbering)")):
            self.assertEqual(str(inspect.signature(function)), text)


if __name__ == "__main__":
    unittest.main()
