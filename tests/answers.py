"""The search of a system in a second way, and checks of answers against points 12 to 15."""

import itertools
import unittest

from ownlabels.numbering import Numbering
from ownlabels.program import Program
from ownlabels.system import System
from ownlabels.verdicts import Crowd, Stall, Table
from plainly import CONDITIONS, SINGLE_WORDS, stepped

LARGE = 10 ** 59


def system_of(text, *places, capacity=1):
    return System(Program.read(text), [Numbering(list(row)) for row in places], capacity)


def plain_system(text, workers, cells, capacity=1):
    return system_of(text, *[range(cells)] * workers, capacity=capacity)


def every_line(count):
    """Each instruction that may stand at a line other than 0 of a program of so many lines."""
    lines = [str(line) for line in range(count)]
    return [*SINGLE_WORDS, *[f"go {line}" for line in lines],
            *[f"wait {condition}" for condition in CONDITIONS],
            *[f"{word} {condition} {line}" for word in ("if", "unless")
              for condition in CONDITIONS for line in lines]]


def workers_of(system):
    return range(1, system.workers + 1)


def inside(system, state):
    return [worker for worker, (line, _) in enumerate(state[1], 1)
            if system.program.instructions[line] == "room"]


def resting(system, state):
    return [worker for worker, (line, _) in enumerate(state[1], 1)
            if system.program.instructions[line] == "rest"]


def after_step(system, state, worker):
    places = [numbering.places for numbering in system.numberings]
    return stepped(system.program.instructions, places, system.capacity, state, worker)


def searched(system):
    """Point 13 without a limit: the schedules of the found states, and the crowd's or None."""
    start = ((0,) * system.cells, ((0, 0),) * system.workers)
    schedules = {start: ()}
    waiting = [start]
    while waiting:
        state = waiting.pop(0)
        for worker in workers_of(system):
            after = after_step(system, state, worker)
            if after not in schedules:
                schedule = schedules[state] + (worker,)
                if len(inside(system, after)) > system.capacity:
                    return schedules, schedule
                schedules[after] = schedule
                waiting.append(after)
    return schedules, None


def has_stall(system, states):
    """Point 12 word for word: for each state, who can have stepped when it comes again."""
    quiet = {state: [(worker, after_step(system, state, worker)) for worker in workers_of(system)]
             for state in states if not inside(system, state)}
    for begin in quiet:
        met = {(begin, frozenset())}
        waiting = list(met)
        while waiting:
            state, stepping = waiting.pop()
            for worker, after in quiet[state]:
                pair = (after, stepping | {worker})
                if after in quiet and pair not in met:
                    met.add(pair)
                    waiting.append(pair)
        rest = resting(system, begin)
        for state, stepping in met:
            if state == begin and stepping and all(
                    worker in stepping or worker in rest for worker in workers_of(system)):
                return True
    return False


def least_crowded_schedule(system, longest):
    """The first of all schedules, the short ones first, that leads to a crowd; or None."""
    for length in range(longest + 1):
        for schedule in itertools.product(workers_of(system), repeat=length):
            state = ((0,) * system.cells, ((0, 0),) * system.workers)
            for worker in schedule:
                state = after_step(system, state, worker)
            if len(inside(system, state)) > system.capacity:
                return schedule
    return None


def states_of(system, schedule):
    states = [((0,) * system.cells, ((0, 0),) * system.workers)]
    for worker in schedule:
        states.append(after_step(system, states[-1], worker))
    return states


class AnswerTest(unittest.TestCase):
    """Checks of answers; a base class of tests."""

    def check_crowd(self, crowd, system):
        self.assertIs(type(crowd), Crowd)
        self.assertIs(crowd.system, system)
        self.assertIs(type(crowd.schedule), tuple)
        states = states_of(system, crowd.schedule)
        many = [len(inside(system, state)) for state in states]
        self.assertGreater(many[-1], system.capacity)
        self.assertLessEqual(max(many[:-1]), system.capacity)

    def check_stall(self, stall, system):
        self.assertIs(type(stall), Stall)
        self.assertIs(stall.system, system)
        self.assertEqual((type(stall.schedule), type(stall.cycle)), (tuple, tuple))
        states = states_of(system, stall.schedule + stall.cycle)
        around = states[len(stall.schedule):]
        self.assertNotEqual(stall.cycle, ())
        self.assertEqual(around[-1], around[0])
        for state in around:
            self.assertEqual(inside(system, state), [])
        for worker in workers_of(system):
            self.assertTrue(worker in stall.cycle or worker in resting(system, around[0]))

    def check_table(self, table, system):
        """The sentences of point 15, but for `ranks`, which are compared by `check_search`."""
        self.assertIs(type(table), Table)
        self.assertIs(table.system, system)
        columns = (table.states, table.ranks, table.levels, table.helpers)
        self.assertEqual([type(column) for column in columns], [tuple] * 4)
        self.assertEqual({len(column) for column in columns}, {len(table.states)})
        self.assertEqual(len(set(table.states)), len(table.states))
        rows = {state: (level, worker) for state, level, worker
                in zip(table.states, table.levels, table.helpers)}
        for state, (level, worker) in rows.items():
            self.assertEqual((type(level), type(worker)), (int, int))
            self.assertTrue(0 <= level < 10 ** 60)
            for mover in workers_of(system):
                self.assertIn(after_step(system, state, mover), rows)
            if inside(system, state):
                self.assertEqual(worker, 0)
            else:
                self.check_row(system, rows, state)

    def check_row(self, system, rows, state):
        """A state of a table with nobody inside."""
        level, chosen = rows[state]
        if chosen != 0:
            self.assertIn(chosen, workers_of(system))
            self.assertNotIn(chosen, resting(system, state))
        for worker in workers_of(system):
            after = after_step(system, state, worker)
            if not inside(system, after):
                self.assertLessEqual(rows[after][0], level)
                if chosen in (0, worker):
                    self.assertLess(rows[after][0], level)
                elif rows[after][0] == level:
                    self.assertEqual(rows[after][1], chosen)

    def check_answer(self, answer, system):
        checks = {"crowd": self.check_crowd, "stall": self.check_stall, "table": self.check_table}
        checks[answer.KIND](answer, system)

    def check_search(self, answer, system):
        """The answer against a search in the test; returns the number of states found."""
        schedules, crowded = searched(system)
        self.check_answer(answer, system)
        if crowded is not None:
            self.assertEqual((answer.KIND, answer.schedule), ("crowd", crowded))
        elif has_stall(system, schedules):
            self.assertEqual(answer.KIND, "stall")
        else:
            self.assertEqual(answer.KIND, "table")
            self.assertEqual(answer.states, tuple(schedules))
            self.assertEqual(answer.ranks, tuple(len(schedule) for schedule in schedules.values()))
        return len(schedules)
