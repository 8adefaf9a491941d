"""The measure of the standard program and its helper: points 20 to 22."""

import collections
import copy
import inspect
import itertools
import random
import unittest

from answers import AnswerTest, after_step, inside, plain_system, system_of, workers_of
from ownlabels.errors import HallError, NotStandard
from ownlabels.numbering import Numbering
from ownlabels.program import Program, standard_program
from ownlabels.progress import helper, measure
from ownlabels.rings import obstacle
from ownlabels.search import judge
from ownlabels.system import System
from plainly import some_places

STANDARD = standard_program()
TEXT = "rest; take*; if enough 7; unless behind 1; give*; wait none; go 1; room; give*"


def told(system, state):
    """Point 21 in the test: the branch, the measure and the helper of a state with nobody inside."""
    contents, spots = state
    cells, workers = len(contents), range(1, len(spots) + 1)
    line = {worker: spots[worker - 1][0] for worker in workers}
    left = {worker: cells - spots[worker - 1][1] for worker in workers}
    share = collections.Counter(contents)
    at = {number: [worker for worker in workers if line[worker] == number] for number in range(9)}
    active = [worker for worker in workers if 1 <= line[worker] <= 3]
    leaving = sum(left[worker] for worker in at[8])
    if leaving > 0:
        return "leaving", (leaving, 0, 0, 0, 0, 0, 0, 0), at[8][0]
    idle, moving = len(at[0]), len(active) + len(at[6])
    giving = sum(left[worker] for worker in at[4])
    if any(share[worker] and not [other for other in active if share[other] > share[worker]]
           for worker in at[4]):
        return "ahead", (0, idle, 2, moving, giving, 0, 0, 0), at[4][0]
    if set(contents) == {0}:
        distance = (len(at[1]) + 3 * len(at[2]) + 2 * len(at[3]) + giving + 3 * len(at[4])
                    + 3 * len(at[5]) + 2 * len(at[6]))
        return "empty", (0, idle, 1, distance, 0, 0, 0, 0), 0
    if giving > 0:
        return "giving", (0, idle, 0, moving, giving, 0, 0, 0), at[4][0]
    if at[6]:
        return "joining", (0, idle, 0, moving, 0, len(at[6]), 0, 0), at[6][0]
    free = share[0]
    least = min(active)
    if free > 0:
        places = system.numberings[least - 1].places
        own = [k for k in range(cells) if contents[places[k]] == 0]
        pointer = spots[least - 1][1]
        if line[least] == 1:
            later = [k for k in own if k >= pointer]
            branch = "free 1" if later else "free 1 again"
            ahead = later[0] - pointer + 1 if later else left[least] + own[0] + 3
        else:
            branch, ahead = f"free {line[least]}", own[0] + 5 - line[least]
        return branch, (0, idle, 0, moving, 0, 0, free, ahead), least
    small = [worker for worker in active if share[worker] < max(share[other] for other in workers)]
    chosen = min(small) if small else least
    numbers = [left[chosen] + 2, 2, 1] if small else [left[chosen] + 1, 1, cells + 2]
    branch = ("behind " if small else "full ") + str(line[chosen])
    return branch, (0, idle, 0, moving, 0, 0, 0, numbers[line[chosen] - 1]), chosen


BRANCHES = {"leaving", "ahead", "empty", "giving", "joining", "free 1", "free 1 again", "free 2",
            "free 3", "behind 1", "behind 2", "behind 3", "full 1", "full 2", "full 3"}


def some_schedule(chance, workers, steps):
    """Workers in a random order, now and then one of them many times."""
    schedule = []
    while len(schedule) < steps:
        schedule += [chance.randint(1, workers)] * chance.choice([1, 1, 1, 2, 3, 12])
    return schedule[:steps]


class BranchTest(AnswerTest):
    def follow(self, system, rows):
        """Measure and helper after each step, from the start; each row has the steps and both."""
        state = system.start()
        for number, (schedule, numbers, chosen) in enumerate(rows):
            for worker in schedule:
                state = after_step(system, state, worker)
            with self.subTest(number=number, state=state):
                self.assertEqual(measure(system, state), numbers)
                self.assertEqual(helper(system, state), chosen)
                for value in numbers or ():
                    self.assertIs(type(value), int)
        return state

    def test_the_example_of_the_document(self):
        system = System(standard_program(), [Numbering.plain(3), Numbering.turn(3, 1)])
        self.assertEqual(measure(system, system.start()), (0, 2, 1, 0, 0, 0, 0, 0))
        self.assertEqual(helper(system, system.start()), 0)

    def test_from_the_start_to_the_first_in_the_room(self):
        self.follow(system_of(TEXT, (0, 1, 2), (1, 2, 0)), [
            # Both come to line 1 while all cells are empty.
            ((), (0, 2, 1, 0, 0, 0, 0, 0), 0),
            ((1,), (0, 1, 1, 1, 0, 0, 0, 0), 0),
            ((2,), (0, 0, 1, 2, 0, 0, 0, 0), 0),
            # Place 0 is taken by worker 1, whose next empty cell is at its pointer.
            ((1,), (0, 0, 0, 2, 0, 0, 2, 1), 1),
            # Place 1 is taken by worker 2, so the next one for worker 1 is one further.
            ((2,), (0, 0, 0, 2, 0, 0, 1, 2), 1),
            # Place 2 is taken by worker 2: worker 1 is behind, and goes on to the end of its cells.
            ((2,), (0, 0, 0, 2, 0, 0, 0, 4), 1),
            ((1,), (0, 0, 0, 2, 0, 0, 0, 3), 1),
            ((1,), (0, 0, 0, 2, 0, 0, 0, 2), 1),
            ((1,), (0, 0, 0, 2, 0, 0, 0, 1), 1),
            # Worker 1 gives its cells back; worker 2 is active and has more.
            ((1,), (0, 0, 0, 1, 3, 0, 0, 0), 1),
            ((1,), (0, 0, 0, 1, 2, 0, 0, 0), 1),
            ((2,), (0, 0, 0, 1, 2, 0, 0, 0), 1),
            # Worker 2 goes into the room, and gives its cells back.
            ((2,), None, None),
            ((2,), (3, 0, 0, 0, 0, 0, 0, 0), 2),
            ((2,), (2, 0, 0, 0, 0, 0, 0, 0), 2),
            ((1,), (2, 0, 0, 0, 0, 0, 0, 0), 2),
            ((2, 2), (0, 1, 1, 4, 0, 0, 0, 0), 0),
            # Worker 1 has nothing to give back any more, waits and joins again.
            ((1,), (0, 1, 1, 3, 0, 0, 0, 0), 0),
            ((1,), (0, 1, 1, 2, 0, 0, 0, 0), 0),
            ((2,), (0, 0, 1, 3, 0, 0, 0, 0), 0),
            ((2,), (0, 0, 0, 2, 0, 1, 0, 0), 1),
            # Back at line 1: place 1 is held, and place 0 is empty.
            ((1,), (0, 0, 0, 2, 0, 0, 2, 1), 1),
        ])

    def test_a_giver_that_no_active_worker_is_ahead_of(self):
        behind = (1, 2, 1, 2, 2, 1, 1, 1, 1)
        self.follow(system_of(TEXT, (0, 1, 2), (1, 2, 0)), [
            (behind, (0, 0, 0, 1, 3, 0, 0, 0), 1),
            # Worker 2 goes into the room and rests; worker 1 is still at line 4 with a cell.
            ((2, 2), None, None),
            ((2, 2, 2), (1, 0, 0, 0, 0, 0, 0, 0), 2),
            ((2,), (0, 1, 2, 0, 3, 0, 0, 0), 1),
            # Worker 2 is active again: with no cell, with as many, and with more.
            ((2,), (0, 0, 2, 1, 3, 0, 0, 0), 1),
            ((2,), (0, 0, 2, 1, 3, 0, 0, 0), 1),
            ((2,), (0, 0, 0, 1, 3, 0, 0, 0), 1),
        ])
        self.follow(system_of(TEXT, (0, 1, 2), (1, 2, 0)), [
            (behind + (2,) * 7, (0, 0, 2, 1, 3, 0, 0, 0), 1),
            # Worker 1 gives its cell back: worker 2 has none either.
            ((1,), (0, 0, 1, 2 + 3 + 1, 0, 0, 0, 0), 0),
            ((1,), (0, 0, 1, 1 + 3 + 1, 0, 0, 0, 0), 0),
            ((1,), (0, 0, 1, 3 + 1, 0, 0, 0, 0), 0),
        ])

    def test_the_distance_at_each_line(self):
        """Worker 2 takes all cells, and gives them back while worker 1 is at some line."""
        system = system_of(TEXT, (2, 0, 1), (0, 1, 2))
        for steps, distance in ((0, 0), (1, 1), (2, 1), (3, 1), (4, 3), (5, 2), (6, 3 + 3), (7, 2 + 3),
                                (8, 1 + 3), (9, 3)):
            rows = [((2,) * 4 + (1,) * steps + (2, 2), (3, 0, 0, 0, 0, 0, 0, 0), 2),
                    ((2,) * 3, (0, 1 + (steps == 0), 1, distance, 0, 0, 0, 0), 0)]
            self.follow(system, rows)
        rows = [((2,) * 4 + (1,) * 9 + (2,) * 5, (0, 1, 1, 3, 0, 0, 0, 0), 0),
                ((1,), (0, 1, 1, 2, 0, 0, 0, 0), 0), ((1,), (0, 1, 1, 1, 0, 0, 0, 0), 0)]
        self.follow(system, rows)

    def test_empty_cells_and_the_helper_at_each_line(self):
        # Five cells: three are enough, and worker 2 has place 1 in the first turn.
        system = system_of(TEXT, (0, 1, 2, 3, 4), (1, 3, 2, 4, 0), (4, 3, 2, 1, 0))
        state = self.follow(system, [
            # Worker 2 takes place 1, worker 3 the places 4, 3 and 2; worker 1 takes place 0.
            ((1, 2, 3, 2), (0, 0, 0, 3, 0, 0, 4, 1), 1),
            ((3, 3, 3), (0, 0, 0, 3, 0, 0, 1, 1), 1),
            ((1,), (0, 0, 0, 3, 0, 0, 0, 4 + 2), 1),
            # Worker 1 passes place 1, worker 2 goes on to line 4 and gives it back.
            ((1,), (0, 0, 0, 3, 0, 0, 0, 3 + 2), 1),
            ((2,) * 6, (0, 0, 0, 2, 5, 0, 0, 0), 2),
            ((2,) * 4, (0, 0, 0, 2, 1, 0, 0, 0), 2),
            # All later cells are held: worker 1 has to come round to own cell 1.
            ((2,), (0, 0, 0, 2, 0, 0, 1, 3 + 1 + 3), 1),
            ((1,), (0, 0, 0, 2, 0, 0, 1, 2 + 1 + 3), 1),
            ((1, 1), (0, 0, 0, 2, 0, 0, 1, 1 + 3), 1),
            # From line 2 to line 3, and on to line 4, because worker 3 has more.
            ((1,), (0, 0, 0, 2, 0, 0, 1, 1 + 2), 1),
            ((1,), (0, 0, 0, 1, 5, 0, 0, 0), 1),
        ])
        self.assertEqual(state[0], (1, 0, 3, 3, 3))

    def test_full_and_nobody_behind(self):
        # Two of two cells: each has one, and neither has enough.
        self.follow(system_of(TEXT, (0, 1), (1, 0)), [
            ((1, 2, 1, 2), (0, 0, 0, 2, 0, 0, 0, 1 + 1), 1),
            ((1,), (0, 0, 0, 2, 0, 0, 0, 1), 1),
            ((1,), (0, 0, 0, 2, 0, 0, 0, 2 + 2), 1),
            ((1,), (0, 0, 0, 2, 0, 0, 0, 2 + 1), 1),
            ((2, 2, 2), (0, 0, 0, 2, 0, 0, 0, 2 + 1), 1),
        ])
        # One worker has all the cells.
        self.follow(system_of(TEXT, (3, 0, 2, 1)), [
            ((1,), (0, 0, 1, 1, 0, 0, 0, 0), 0), ((1,), (0, 0, 0, 1, 0, 0, 3, 1), 1),
            ((1,), (0, 0, 0, 1, 0, 0, 2, 1), 1), ((1,), (0, 0, 0, 1, 0, 0, 1, 1), 1),
            ((1,), (0, 0, 0, 1, 0, 0, 0, 1), 1), ((1,), None, None),
            ((1,), (4, 0, 0, 0, 0, 0, 0, 0), 1), ((1, 1, 1), (1, 0, 0, 0, 0, 0, 0, 0), 1),
            ((1,), (0, 1, 1, 0, 0, 0, 0, 0), 0),
        ])

    def test_the_least_worker_of_each_kind(self):
        """The helper is the least one of its kind, not the one that came first."""
        # Worker 2 takes both cells of two; workers 1 and 3 find none and come to line 4.
        system = plain_system(TEXT, 3, 2, 2)
        self.follow(system, [
            ((2, 2), (0, 2, 0, 1, 0, 0, 1, 1), 2),
            ((2, 3), (0, 1, 0, 2, 0, 0, 0, 4), 3),
            ((1,), (0, 0, 0, 3, 0, 0, 0, 4), 1),
            ((3,) * 4, (0, 0, 0, 2, 2, 0, 0, 0), 3),
            ((1,) * 4, (0, 0, 0, 1, 4, 0, 0, 0), 1),
            ((1, 1), (0, 0, 0, 1, 2, 0, 0, 0), 3),
        ])

    def test_several_leave(self):
        # Room for two: 3 * 1 > 2, so that one cell is enough.
        system = system_of(TEXT, (0, 1), (1, 0), capacity=2)
        self.follow(system, [
            ((1, 2, 1, 2, 1, 2), (0, 0, 0, 2, 0, 0, 0, 1), 1),
            ((2,), None, None), ((1,), None, None), ((2,), None, None),
            ((1,), (4, 0, 0, 0, 0, 0, 0, 0), 1), ((2,), (3, 0, 0, 0, 0, 0, 0, 0), 1),
            ((1, 1), (1, 0, 0, 0, 0, 0, 0, 0), 2), ((2,), (0, 2, 1, 0, 0, 0, 0, 0), 0),
        ])

    def test_leaving_comes_first(self):
        """Also where somebody else is giving cells back."""
        system = system_of(TEXT, (0, 1, 2), (1, 2, 0))
        self.follow(system, [
            ((1, 2, 1, 2, 2, 1, 1, 1, 1) + (2, 2, 2), (3, 0, 0, 0, 0, 0, 0, 0), 2),
            ((1,), (3, 0, 0, 0, 0, 0, 0, 0), 2), ((1, 1), (3, 0, 0, 0, 0, 0, 0, 0), 2),
        ])

    def test_random_runs_of_all_sizes(self):
        chance = random.Random(111)
        hit = collections.Counter()
        for workers, cells, capacity in itertools.product(range(1, 7), range(1, 13), (1, 2, 3, 6)):
            numberings = [Numbering(some_places(chance, cells)) for _ in range(workers)]
            system = System(STANDARD, numberings, capacity)
            for state in system.run(some_schedule(chance, workers, 150)):
                if inside(system, state):
                    self.assertIsNone(measure(system, state))
                    self.assertIsNone(helper(system, state))
                else:
                    branch, numbers, chosen = told(system, state)
                    self.assertEqual(measure(system, state), numbers)
                    self.assertEqual(helper(system, state), chosen)
                    hit[branch] += 1
        self.assertEqual(set(hit), BRANCHES)
        self.assertGreater(min(hit.values()), 20)

    def test_all_states_of_small_systems(self):
        hit = collections.Counter()
        for places, capacity in (([(0, 1, 2), (2, 0, 1)], 1), ([(0, 1), (0, 1), (1, 0)], 2),
                                 ([(0,)] * 3, 1), ([(0, 1, 2, 3), (3, 1, 2, 0)], 2)):
            system = system_of(TEXT, *places, capacity=capacity)
            for state in judge(system).states:
                if not inside(system, state):
                    branch, numbers, chosen = told(system, state)
                    self.assertEqual((measure(system, state), helper(system, state)), (numbers, chosen))
                    hit[branch] += 1
        self.assertGreater(len(hit), 10)


class ProgressTest(AnswerTest):
    """Point 22, for systems without an obstacle."""

    def check_steps(self, system, state):
        numbers, chosen = measure(system, state), helper(system, state)
        self.assertEqual(len(numbers), 8)
        if chosen != 0:
            self.assertNotEqual(state[1][chosen - 1][0], 0)
        for worker in workers_of(system):
            after = after_step(system, state, worker)
            if not inside(system, after):
                following = measure(system, after)
                self.assertLessEqual(following, numbers)
                if chosen in (0, worker):
                    self.assertLess(following, numbers)
                elif following == numbers:
                    self.assertEqual(helper(system, after), chosen)

    def test_all_states_of_small_systems(self):
        chance = random.Random(112)
        for workers, cells, capacity in ((1, 1, 1), (1, 6, 1), (1, 12, 2), (2, 1, 1), (2, 2, 2), (2, 3, 1),
                                         (2, 3, 2), (2, 4, 2), (3, 1, 1), (3, 2, 2), (3, 1, 3), (2, 3, 6)):
            numberings = [Numbering(some_places(chance, cells)) for _ in range(workers)]
            system = System(STANDARD, numberings, capacity)
            table = judge(system)
            self.assertEqual(table.KIND, "table")
            for state in table.states:
                if not inside(system, state):
                    self.check_steps(system, state)

    def test_all_numberings_of_three_cells(self):
        for places in itertools.permutations(range(3)):
            system = system_of(TEXT, (0, 1, 2), places)
            for state in judge(system).states:
                if not inside(system, state):
                    self.check_steps(system, state)

    def test_random_runs_of_all_sizes(self):
        chance = random.Random(113)
        for workers, cells, capacity in itertools.product(range(1, 7), range(1, 13), range(1, 7)):
            if obstacle(workers, cells, capacity) == 0:
                numberings = [Numbering(some_places(chance, cells)) for _ in range(workers)]
                system = System(STANDARD, numberings, capacity)
                for state in system.run(some_schedule(chance, workers, 100)):
                    if not inside(system, state):
                        self.check_steps(system, state)

    def test_who_follows_the_helper_comes_to_the_room(self):
        """Steps of the helper, or of anybody where it is 0, are enough to get somebody inside."""
        chance = random.Random(114)
        for workers, cells, capacity in itertools.product(range(1, 7), (1, 5, 7, 11, 12), (1, 3, 6)):
            if obstacle(workers, cells, capacity) == 0:
                numberings = [Numbering(some_places(chance, cells)) for _ in range(workers)]
                system = System(STANDARD, numberings, capacity)
                state = list(system.run(some_schedule(chance, workers, 60)))[-1]
                steps = 0
                while not inside(system, state):
                    chosen = helper(system, state)
                    state = after_step(system, state, chosen or chance.randint(1, workers))
                    steps += 1
                    self.assertLess(steps, 2000)

    def test_with_an_obstacle_the_measure_does_not_always_fall(self):
        """Two workers with two cells go round together, and the measure rises on the way."""
        system = system_of(TEXT, (0, 1), (1, 0))
        states = list(system.run([1, 2] * 6))
        rises = [measure(system, after) > measure(system, before)
                 for before, after in zip(states, states[1:])]
        self.assertIn(True, rises)


class StandardTest(AnswerTest):
    """Point 20."""

    def test_the_program(self):
        self.assertEqual(standard_program().text, TEXT)
        self.assertEqual(standard_program().instructions, tuple(TEXT.split("; ")))

    def test_no_crowd_and_a_stall_only_with_an_obstacle(self):
        chance = random.Random(115)
        for workers, cells, capacity in ((1, 3, 1), (2, 1, 1), (2, 2, 2), (2, 3, 1), (2, 4, 2), (2, 4, 3),
                                         (3, 1, 1), (3, 2, 2), (3, 2, 3), (4, 1, 1), (2, 5, 1)):
            self.assertEqual(obstacle(workers, cells, capacity), 0)
            for _ in range(3):
                numberings = [Numbering(some_places(chance, cells)) for _ in range(workers)]
                self.assertEqual(judge(System(STANDARD, numberings, capacity), 10000).KIND, "table")
        for workers, cells in ((2, 2), (2, 4), (3, 2)):
            for _ in range(4):
                numberings = [Numbering(some_places(chance, cells)) for _ in range(workers)]
                self.assertIn(judge(System(STANDARD, numberings), 10000).KIND, ("stall", "table"))


class NotStandardTest(AnswerTest):
    OTHERS = ["rest", "rest; room", "rest; take*; room; give*",
              "; ".join(TEXT.split("; ")[:-1]), TEXT + "; rest", TEXT + "; give*",
              TEXT.replace("enough", "behind"), TEXT.replace("take*", "take"),
              TEXT.replace("wait none", "wait full"), TEXT.replace("go 1", "go 2"),
              TEXT.replace("room; give*", "give*; room"), TEXT.replace("go 1", "go 0"),
              "; ".join(TEXT.split("; ")[:7] + ["rest", "give*"])]

    def refused(self, system, state):
        for question in (measure, helper):
            with self.assertRaises(NotStandard) as caught:
                question(system, state)
            self.assertIsInstance(caught.exception, HallError)

    def test_other_programs(self):
        for text in self.OTHERS:
            for workers, cells in ((1, 1), (2, 3), (6, 12)):
                system = plain_system(text, workers, cells)
                with self.subTest(text=text, workers=workers):
                    self.refused(system, system.start())

    def test_one_other_instruction_at_each_line(self):
        for line in range(1, 9):
            for word in ("rest", "room", "take*", "on", "give", "go 3", "wait first"):
                rows = list(STANDARD.instructions)
                if rows[line] != word:
                    rows[line] = word
                    system = plain_system("; ".join(rows), 2, 3)
                    self.refused(system, system.start())

    def test_whatever_the_state_is(self):
        for text in self.OTHERS[1:]:
            system = plain_system(text, 2, 3)
            lines = len(system.program.instructions)
            for first, second in itertools.product(range(lines), repeat=2):
                self.refused(system, ((0, 1, 2), ((first, 0), (second, 2))))

    def test_with_somebody_inside(self):
        system = plain_system("rest; room", 2, 1, 2)
        for state in system.run([1, 2]):
            self.refused(system, state)
        # The room stands at the same line as in the standard program.
        system = plain_system(TEXT.replace("wait none", "wait full"), 1, 1)
        state = list(system.run([1, 1, 1]))[-1]
        self.assertEqual(system.inside(state), (1,))
        self.refused(system, state)

    def test_a_program_made_anew_is_the_standard_one(self):
        for program in (Program(TEXT.split("; ")), Program.read(TEXT), Program(tuple(TEXT.split("; "))),
                        Program(list(standard_program())), standard_program()):
            system = System(program, [Numbering.plain(3), Numbering.turn(3, 1)])
            self.assertEqual(measure(system, system.start()), (0, 2, 1, 0, 0, 0, 0, 0))
            self.assertEqual(helper(system, system.start()), 0)


class PassedTest(AnswerTest):
    def test_signatures(self):
        for question in (measure, helper):
            self.assertEqual(str(inspect.signature(question)), "(system, state)")

    def test_none_with_somebody_inside(self):
        system = system_of(TEXT, (0, 1), (1, 0), capacity=2)
        many = 0
        for state in judge(system).states:
            if inside(system, state):
                self.assertIsNone(measure(system, state))
                self.assertIsNone(helper(system, state))
                many += 1
        self.assertGreater(many, 10)

    def test_in_either_order_and_for_systems_in_turn(self):
        chance = random.Random(116)
        asked = []
        for workers, cells, capacity in ((2, 3, 1), (3, 4, 2), (1, 2, 1), (6, 12, 6), (2, 2, 1)):
            numberings = [Numbering(some_places(chance, cells)) for _ in range(workers)]
            system = System(standard_program(), numberings, capacity)
            states = list(system.run(some_schedule(chance, workers, 40)))
            asked += [(system, state) for state in states if not inside(system, state)]
        first = [(measure(system, state), helper(system, state)) for system, state in asked]
        second = [(helper(system, state), measure(system, state)) for system, state in asked]
        self.assertEqual([pair[::-1] for pair in second], first)
        order = list(range(len(asked)))
        chance.shuffle(order)
        for number in order:
            system, state = asked[number]
            self.assertEqual(chance.choice([measure, helper])(system, state) in first[number], True)
            self.assertEqual((measure(system, state), helper(system, state)), first[number])
            self.assertEqual(told(system, state)[1:], first[number])

    def test_what_is_passed_as_it_was(self):
        system = system_of(TEXT, (0, 1, 2), (1, 2, 0))
        for state in list(system.run([1, 2, 1, 2, 2, 1, 1, 1, 1, 1])):
            before = copy.deepcopy(state)
            measure(system, state)
            helper(system, state)
            self.assertEqual(state, before)
        self.assertEqual(system.program.text, TEXT)
        self.assertEqual([numbering.places for numbering in system.numberings], [(0, 1, 2), (1, 2, 0)])


if __name__ == "__main__":
    unittest.main()
