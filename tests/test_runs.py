"""What points 16, 17, 20 and 22 say of runs, with systems alone."""

import itertools
import random
import unittest

from ownlabels.numbering import Numbering
from ownlabels.program import Program, standard_program
from ownlabels.system import System
from plainly import some_instructions, some_places

STANDARD = standard_program()


def ring_of(base, size):
    """The ring of point 16."""
    cells = len(base)
    return [Numbering([(place + i * cells // size) % cells for place in base]) for i in range(size)]


def has_obstacle(workers, cells, capacity):
    return any(cells % size == 0 for size in range(capacity + 1, workers + 1))


def some_system(chance, program, workers, cells, capacity):
    return System(program, [Numbering(some_places(chance, cells)) for _ in range(workers)], capacity)


def some_schedule(chance, workers, steps):
    """Workers in a random order, now and then one of them many times."""
    schedule = []
    while len(schedule) < steps:
        schedule += [chance.randint(1, workers)] * chance.choice([1, 1, 1, 2, 3, 20])
    return schedule[:steps]


class BeatTest(unittest.TestCase):
    """Point 17: beats keep the workers of a ring alike."""

    def check(self, system, state, size):
        contents, spots = state
        apart = system.cells // size
        for first in range(0, system.workers, size):
            self.assertEqual(len(set(spots[first:first + size])), 1)
        for place, holder in enumerate(contents):
            other = contents[(place + apart) % system.cells]
            self.assertEqual(holder == 0, other == 0)
            if holder:
                ring, i = divmod(holder - 1, size)
                self.assertEqual(other, ring * size + (i + 1) % size + 1)
        self.assertEqual(len(system.inside(state)) % size, 0)

    def run_beats(self, chance, program, size, rings, cells, capacity):
        bases = [some_places(chance, cells) for _ in range(rings)]
        numberings = [numbering for base in bases for numbering in ring_of(base, size)]
        system = System(program, numberings, capacity)
        state = system.start()
        for _ in range(60):
            ring = chance.randrange(rings)
            for i in range(size):
                state = system.step(state, ring * size + i + 1)
            self.check(system, state, size)

    def sizes(self):
        for cells in range(1, 13):
            for size in range(1, 7):
                if cells % size == 0:
                    for rings in range(1, 6 // size + 1):
                        yield size, rings, cells

    def test_standard_program(self):
        chance = random.Random(51)
        for size, rings, cells in self.sizes():
            self.run_beats(chance, STANDARD, size, rings, cells, chance.randint(1, 6))

    def test_other_programs(self):
        chance = random.Random(52)
        for size, rings, cells in self.sizes():
            for _ in range(4):
                program = Program(some_instructions(chance, chance.randint(2, 24)))
                self.run_beats(chance, program, size, rings, cells, chance.randint(1, 6))


class CrowdTest(unittest.TestCase):
    """Point 20: the standard program has no crowd."""

    def check(self, system, state):
        self.assertLessEqual(len(system.inside(state)), system.capacity)

    def test_random_schedules(self):
        chance = random.Random(53)
        entered = 0
        for workers, cells, capacity in itertools.product(range(1, 7), range(1, 13), (1, 2, 5)):
            system = some_system(chance, STANDARD, workers, cells, capacity)
            for state in system.run(some_schedule(chance, workers, 400)):
                self.check(system, state)
                entered += len(system.inside(state)) == capacity
        self.assertGreater(entered, 0)

    def test_all_states_of_small_systems(self):
        for places in itertools.permutations(range(3)):
            system = System(STANDARD, [Numbering.plain(3), Numbering(places)])
            found = all_states(system)
            for state in found:
                self.check(system, state)
            self.assertGreater(len(found), 100)
            self.assertEqual({system.inside(state) for state in found}, {(), (1,), (2,)})

    def test_a_capacity_is_used(self):
        system = System(STANDARD, [Numbering([0, 1, 2, 3]), Numbering([3, 2, 1, 0])], 2)
        found = all_states(system)
        self.assertEqual({system.inside(state) for state in found}, {(), (1,), (2,), (1, 2)})


def all_states(system):
    """All states that can be reached, the start first."""
    found = [system.start()]
    known = set(found)
    for state in found:
        for worker in range(1, system.workers + 1):
            after = system.step(state, worker)
            if after not in known:
                known.add(after)
                found.append(after)
    return found


class EnteringTest(unittest.TestCase):
    """Points 20 and 22: rounds bring somebody inside exactly if there is no obstacle."""

    def enters(self, system, state, rounds):
        """Whether somebody is inside after one of the steps of that many rounds."""
        for _ in range(rounds):
            for worker in range(1, system.workers + 1):
                state = system.step(state, worker)
                if system.inside(state):
                    return True
        return False

    def test_from_any_state_of_a_random_run(self):
        chance = random.Random(54)
        for workers, cells, capacity in itertools.product(range(1, 7), range(1, 13), (1, 2, 3, 6)):
            if not has_obstacle(workers, cells, capacity):
                system = some_system(chance, STANDARD, workers, cells, capacity)
                states = list(system.run(some_schedule(chance, workers, 150)))
                for state in states[::50]:
                    self.assertTrue(self.enters(system, state, 1000), (workers, cells, capacity))

    def test_rings_without_an_obstacle(self):
        for workers, cells in ((2, 9), (2, 3), (3, 5), (4, 7), (6, 11)):
            system = System(STANDARD, [Numbering.plain(cells)] * workers)
            self.assertTrue(self.enters(system, system.start(), 1000))

    def test_all_states_of_small_systems(self):
        for places in itertools.permutations(range(3)):
            system = System(STANDARD, [Numbering.plain(3), Numbering(places)])
            for state in all_states(system):
                self.assertTrue(self.enters(system, state, 100))

    def test_a_ring_with_an_obstacle_never_enters(self):
        for size, cells, capacity in ((2, 2, 1), (3, 3, 1), (3, 12, 2), (2, 10, 1), (6, 12, 5)):
            base = tuple(range(cells))
            system = System(STANDARD, ring_of(base, size), capacity)
            self.assertFalse(self.enters(system, system.start(), 300))


if __name__ == "__main__":
    unittest.main()
