"""The lockstep run: points 17 and 18."""

import copy
import inspect
import itertools
import random
import unittest

from answers import LARGE, AnswerTest, after_step, inside, states_of
from ownlabels.errors import BadSize, NoObstacle
from ownlabels.numbering import Numbering
from ownlabels.program import Program, standard_program
from ownlabels.rings import lockstep, obstacle
from plainly import some_instructions, some_places

STANDARD = standard_program()
BAD_SIZES = [0, -1, -6, 13, 14, 100, LARGE, -LARGE, 10 ** 60 - 1]
ALL_SIZES = [sizes for sizes in itertools.product(range(1, 7), range(1, 13), range(1, 7))
             if any(sizes[1] % size == 0 for size in range(sizes[2] + 1, sizes[0] + 1))]


def in_beats(system, size):
    """Point 18 in the test: the kind, the schedule and the cycle."""
    state = ((0,) * system.cells, ((0, 0),) * system.workers)
    beat = tuple(range(1, size + 1))
    ends = {state: 0}
    while True:
        for number in beat:
            state = after_step(system, state, number)
            if len(inside(system, state)) > system.capacity:
                return "crowd", beat * (len(ends) - 1) + beat[:number], None
        if state in ends:
            return "stall", beat * ends[state], beat * (len(ends) - ends[state])
        ends[state] = len(ends)


class LockstepTest(AnswerTest):
    def check(self, program, workers, cells, capacity, base):
        answer = lockstep(program, workers, cells, capacity, base)
        system = answer.system
        size = min(size for size in range(capacity + 1, workers + 1) if cells % size == 0)
        places = tuple(range(cells)) if base is None else base.places
        self.assertIs(system.program, program)
        self.assertEqual((system.workers, system.cells, system.capacity), (workers, cells, capacity))
        self.assertEqual([numbering.places for numbering in system.numberings], [
            tuple((place + (i if i < size else 0) * cells // size) % cells for place in places)
            for i in range(workers)])
        kind, schedule, cycle = in_beats(system, size)
        self.assertEqual((answer.KIND, answer.schedule), (kind, schedule))
        if kind == "stall":
            self.assertEqual(answer.cycle, cycle)
        self.check_answer(answer, system)
        return answer

    def test_the_example_of_the_document(self):
        stall = lockstep(standard_program(), 2, 2)
        self.assertEqual([stall.KIND, stall.schedule, len(stall.cycle)], ["stall", (1, 2, 1, 2), 8])
        self.assertEqual(stall.cycle, (1, 2) * 4)

    def test_crowds_by_hand(self):
        program = Program.read("rest; on; room")
        for workers, cells, capacity, schedule in (
                (2, 2, 1, (1, 2, 1, 2)), (3, 3, 1, (1, 2, 3, 1, 2)), (3, 3, 2, (1, 2, 3, 1, 2, 3)),
                (6, 3, 1, (1, 2, 3, 1, 2)), (5, 5, 1, (1, 2, 3, 4, 5, 1, 2)),
                (6, 5, 3, (1, 2, 3, 4, 5, 1, 2, 3, 4)), (6, 12, 2, (1, 2, 3, 1, 2, 3)),
                (6, 12, 4, (1, 2, 3, 4, 5, 6, 1, 2, 3, 4, 5)), (4, 12, 3, (1, 2, 3, 4, 1, 2, 3, 4))):
            with self.subTest(workers=workers, cells=cells, capacity=capacity):
                answer = self.check(program, workers, cells, capacity, None)
                self.assertEqual((answer.KIND, answer.schedule), ("crowd", schedule))

    def test_crowds_in_the_middle_and_at_the_end_of_a_beat(self):
        chance = random.Random(92)
        ends = []
        for workers, cells, capacity in ALL_SIZES:
            rows = some_instructions(chance, chance.randint(2, 8))
            rows[1:2] = ["room"]
            answer = self.check(Program(rows), workers, cells, capacity, None)
            self.assertEqual(answer.KIND, "crowd")
            self.assertEqual(len(answer.schedule), capacity + 1)
            ends.append(len(answer.schedule) == obstacle(workers, cells, capacity))
        self.assertGreater(ends.count(True), 10)
        self.assertGreater(ends.count(False), 10)

    def test_a_stall_with_an_empty_schedule(self):
        for text in ("rest", "rest; rest", "rest; on", "rest; on*", "rest; take; give; on*"):
            for workers, cells, capacity in ((2, 2, 1), (6, 2, 1), (3, 3, 2), (6, 12, 4)):
                with self.subTest(text=text, workers=workers, cells=cells):
                    answer = self.check(Program.read(text), workers, cells, capacity, None)
                    if text != "rest; take; give; on*":
                        self.assertEqual((answer.KIND, answer.schedule), ("stall", ()))
        answer = self.check(Program.read("rest"), 3, 3, 1, None)
        self.assertEqual((answer.schedule, answer.cycle), ((), (1, 2, 3)))

    def test_a_stall_with_a_schedule(self):
        answer = self.check(Program.read("rest; take; wait none"), 3, 3, 1, None)
        self.assertEqual((answer.schedule, answer.cycle), ((1, 2, 3) * 2, (1, 2, 3)))
        answer = self.check(Program.read("rest; on; on; go 2"), 6, 2, 1, None)
        self.assertEqual((answer.schedule, answer.cycle), ((1, 2) * 2, (1, 2) * 4))

    def test_all_sizes_with_random_programs_and_bases(self):
        chance = random.Random(93)
        kinds = []
        for workers, cells, capacity in ALL_SIZES * 4:
            rows = some_instructions(chance, chance.randint(2, 24))
            base = chance.choice([None, Numbering(some_places(chance, cells))])
            answer = self.check(Program(rows), workers, cells, capacity, base)
            kinds.append((answer.KIND, answer.schedule == ()))
        self.assertGreater(kinds.count(("crowd", False)), 10)
        self.assertGreater(kinds.count(("stall", False)), 10)
        self.assertGreater(kinds.count(("stall", True)), 10)

    def test_further_workers_have_the_base_and_never_step(self):
        chance = random.Random(94)
        for workers, cells, capacity in ALL_SIZES:
            size = obstacle(workers, cells, capacity)
            if size < workers:
                base = Numbering(some_places(chance, cells))
                answer = lockstep(STANDARD, workers, cells, capacity, base)
                self.assertEqual(list(answer.system.numberings[size:]), [base] * (workers - size))
                for state in states_of(answer.system, answer.schedule + answer.cycle):
                    self.assertEqual(state[1][size:], ((0, 0),) * (workers - size))

    def test_the_standard_program_stalls_with_every_obstacle(self):
        chance = random.Random(95)
        for workers, cells, capacity in ALL_SIZES:
            for base in (None, Numbering(some_places(chance, cells))):
                answer = self.check(STANDARD, workers, cells, capacity, base)
                self.assertEqual(answer.KIND, "stall")

    def test_steps_go_round_in_beats(self):
        for workers, cells, capacity in ALL_SIZES:
            answer = lockstep(STANDARD, workers, cells, capacity)
            size = obstacle(workers, cells, capacity)
            beat = tuple(range(1, size + 1))
            self.assertEqual(answer.schedule, beat * (len(answer.schedule) // size))
            self.assertEqual(answer.cycle, beat * (len(answer.cycle) // size))

    def test_what_is_alike_after_each_beat(self):
        """Point 17 in the states of a lockstep run."""
        chance = random.Random(96)
        for workers, cells, capacity in ALL_SIZES:
            rows = some_instructions(chance, chance.randint(2, 12))
            answer = lockstep(Program(rows), workers, cells, capacity)
            size = obstacle(workers, cells, capacity)
            steps = answer.schedule + (answer.cycle if answer.KIND == "stall" else ())
            for contents, spots in states_of(answer.system, steps)[::size]:
                self.assertEqual(len(set(spots[:size])), 1)
                for place in range(cells):
                    first, other = contents[place], contents[(place + cells // size) % cells]
                    self.assertEqual(other, first % size + 1 if first else 0)

    def test_long_runs(self):
        for text, before, around in (
                ("rest; unless empty 5; if mine 5; take; on*; give", 0, 18256),
                ("rest; go 7; take*; give; unless empty 3; take; on*; rest; on*; unless mine 3; take*",
                 28150, 56)):
            answer = self.check(Program.read(text), 2, 12, 1, None)
            self.assertEqual((len(answer.schedule), len(answer.cycle)), (before, around))


class PassedTest(unittest.TestCase):
    def test_signature(self):
        self.assertEqual(str(inspect.signature(lockstep)),
                         "(program, workers, cells, capacity=1, base=None)")

    def test_by_position_and_by_name(self):
        base = Numbering([3, 1, 0, 2])
        first = lockstep(STANDARD, 4, 4, 2, base).report()
        for answer in (lockstep(STANDARD, 4, 4, capacity=2, base=base),
                       lockstep(STANDARD, 4, 4, base=base, capacity=2),
                       lockstep(STANDARD, 4, 4, 2, base=base)):
            self.assertEqual(answer.report(), first)
        self.assertEqual(lockstep(STANDARD, 4, 4, base=base).report()[0], "4 workers, 4 cells, capacity 1")

    def test_no_base_is_the_plain_one(self):
        for workers, cells, capacity in ALL_SIZES[::5]:
            reports = [lockstep(STANDARD, workers, cells, capacity, base).report()
                       for base in (None, Numbering.plain(cells))]
            self.assertEqual(reports[0], reports[1])
            self.assertEqual(lockstep(STANDARD, workers, cells, capacity).report(), reports[0])

    def test_asked_twice(self):
        base = Numbering([2, 0, 1, 3])
        program = Program.read("rest; take*; give; room")
        before = copy.deepcopy((base.places, program.instructions))
        first = lockstep(program, 3, 4, 1, base)
        second = lockstep(program, 3, 4, 1, base)
        self.assertIsNot(first, second)
        self.assertEqual(first.report(), second.report())
        self.assertEqual((base.places, program.instructions), before)

    def test_bad_sizes(self):
        calls = [lambda bad: lockstep(STANDARD, bad, 2), lambda bad: lockstep(STANDARD, bad, 12, 1, None),
                 lambda bad: lockstep(STANDARD, 2, bad), lambda bad: lockstep(STANDARD, 6, bad, 2),
                 lambda bad: lockstep(STANDARD, 2, 2, bad), lambda bad: lockstep(STANDARD, 2, 2, capacity=bad),
                 lambda bad: lockstep(STANDARD, 2, 3, bad), lambda bad: lockstep(STANDARD, bad, bad, bad)]
        for bad in BAD_SIZES:
            for number, call in enumerate(calls):
                with self.subTest(bad=bad, number=number), self.assertRaises(BadSize):
                    call(bad)

    def test_at_and_beyond_the_limits(self):
        for workers, cells, capacity, good in ((6, 12, 5, True), (7, 12, 5, False), (6, 13, 1, False),
                                               (6, 12, 7, False), (6, 12, 1, True), (7, 7, 6, False)):
            if good:
                self.assertEqual(lockstep(STANDARD, workers, cells, capacity).KIND, "stall")
            else:
                with self.assertRaises(BadSize):
                    lockstep(STANDARD, workers, cells, capacity)

    def test_a_base_of_another_number_of_cells(self):
        for cells, others in ((2, 3), (2, 1), (4, 12), (12, 11), (3, 4), (1, 2)):
            for workers, capacity in ((2, 1), (6, 1), (1, 1), (2, 6)):
                # Also where there is no obstacle.
                with self.subTest(cells=cells, others=others), self.assertRaises(BadSize):
                    lockstep(STANDARD, workers, cells, capacity, Numbering.plain(others))

    def test_no_obstacle(self):
        for workers, cells, capacity in itertools.product(range(1, 7), range(1, 13), range(1, 7)):
            if (workers, cells, capacity) not in ALL_SIZES:
                for base in (None, Numbering.turn(cells, 1)):
                    with self.assertRaises(NoObstacle):
                        lockstep(STANDARD, workers, cells, capacity, base)


if __name__ == "__main__":
    unittest.main()
