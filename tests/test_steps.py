"""Steps: points 4, 5 and 9, each kind of instruction from each pointer."""

import copy
import itertools
import random
import unittest

from ownlabels.errors import NoWorker
from ownlabels.numbering import Numbering
from ownlabels.program import Program
from ownlabels.system import System
from plainly import CONDITIONS, SINGLE_WORDS, holds, samples, some_places, stepped

LARGE = 10 ** 60 - 1
BAD_WORKERS = [0, -1, -2, 3, 4, 7, LARGE, -LARGE]
# Own cell k of worker 1 at place FIRST[k]; worker 2 goes through the places backwards.
FIRST = {1: [0], 3: [2, 0, 1], 12: [7, 0, 11, 3, 9, 1, 10, 2, 4, 8, 6, 5]}


def pair(program, cells, capacity=1):
    second = Numbering(list(range(cells))[::-1])
    return System(Program(program), [Numbering(FIRST[cells]), second], capacity)


def changed(contents, place, content):
    row = list(contents)
    row[place] = content
    return tuple(row)


class StepTest(unittest.TestCase):
    def check(self, system, state, worker, contents, spot):
        """The step of the worker gives these contents and takes it to this spot."""
        before = copy.deepcopy(state)
        with self.subTest(program=system.program.text, state=state, worker=worker):
            after = system.step(state, worker)
            spots = [*state[1][:worker - 1], spot, *state[1][worker:]]
            self.assertEqual(after, (tuple(contents), tuple(spots)))
            parts = [after, *after, *after[1]]
            self.assertEqual([type(part) for part in parts], [tuple] * len(parts))
            self.assertEqual(state, before)
            self.assertEqual(system.step(state, worker), after)


class MovingTest(StepTest):
    """take, give and on, with a star and without, at a middle line and at the last one."""

    def each(self, word):
        """All cells, pointers, contents of the cell at the pointer and lines of the instruction."""
        for cells in (1, 3, 12):
            for lines, line in ((["rest", word, "room"], 1), (["rest", "room", word], 2)):
                system = pair(lines, cells)
                for pointer, content, others in itertools.product(range(cells), range(3), range(3)):
                    contents = changed((others,) * cells, FIRST[cells][pointer], content)
                    state = (contents, ((line, pointer), (0, 0)))
                    moved = 0 if pointer == cells - 1 else pointer + 1
                    yield system, state, line, FIRST[cells][pointer], content, moved

    def check_word(self, word, after):
        for system, state, line, place, content, moved in self.each(word):
            contents = changed(state[0], place, after[content])
            self.check(system, state, 1, contents, ((line + 1) % 3, moved))
        for system, state, line, place, content, moved in self.each(word + "*"):
            contents = changed(state[0], place, after[content])
            stays = moved != 0
            self.check(system, state, 1, contents, (line if stays else (line + 1) % 3, moved))

    def test_take(self):
        self.check_word("take", {0: 1, 1: 1, 2: 2})

    def test_give(self):
        self.check_word("give", {0: 0, 1: 0, 2: 2})

    def test_on(self):
        self.check_word("on", {0: 0, 1: 1, 2: 2})

    def test_the_second_worker(self):
        # Own cell 1 of worker 2 is at place 10, own cell 11 at place 0.
        system = pair(["rest", "take*", "give"], 12)
        contents = (1, 0, 0, 2, 0, 0, 0, 0, 0, 0, 0, 0)
        for pointer in range(12):
            state = (contents, ((1, 5), (1, pointer)))
            place = 11 - pointer
            after = changed(contents, place, contents[place] or 2)
            spot = (1, pointer + 1) if pointer < 11 else (2, 0)
            self.check(system, state, 2, after, spot)
        self.check(system, (contents, ((1, 5), (2, 8))), 2, changed(contents, 3, 0), (0, 9))
        self.check(system, (contents, ((1, 5), (2, 11))), 2, contents, (0, 0))

    def test_all_cells_one_after_another(self):
        for cells in (1, 3, 12):
            system = pair(["rest", "take*", "on*", "give*", "room"], cells)
            states = list(system.run([1] * (3 * cells + 1)))
            for k in range(cells):
                self.assertEqual(states[1 + k][1][0], (1, k))
                self.assertEqual(states[1 + cells + k][1][0], (2, k))
                self.assertEqual(states[1 + 2 * cells + k][1][0], (3, k))
                taken = {FIRST[cells][own] for own in range(k)}
                held = tuple(1 if place in taken else 0 for place in range(cells))
                self.assertEqual(states[1 + k][0], held)
                self.assertEqual(states[1 + cells + k][0], (1,) * cells)
                self.assertEqual(states[1 + 2 * cells + k][0], tuple(1 - one for one in held))
            self.assertEqual(states[-1], ((0,) * cells, ((4, 0), (0, 0))))


class NothingTest(StepTest):
    def test_rest_and_room(self):
        for word in ("rest", "room"):
            for cells in (1, 3, 12):
                system = pair(["rest", word, word], cells)
                for pointer, content in itertools.product(range(cells), range(3)):
                    contents = (content,) * cells
                    state = (contents, ((1, pointer), (2, 0)))
                    self.check(system, state, 1, contents, (2, pointer))
                    self.check(system, state, 2, contents, (0, 0))

    def test_a_program_of_one_line(self):
        system = pair(["rest"], 3)
        self.check(system, ((0, 1, 2), ((0, 2), (0, 1))), 1, (0, 1, 2), (0, 2))
        self.check(system, ((0, 1, 2), ((0, 2), (0, 1))), 2, (0, 1, 2), (0, 1))

    def test_the_first_line_leads_to_the_second(self):
        self.check(pair(["rest", "room"], 3), ((0, 1, 2), ((0, 2), (0, 1))), 1, (0, 1, 2), (1, 2))


class JumpTest(StepTest):
    """Programs of 24 lines, so that numbers of one and of two digits occur."""

    def program(self, line, text):
        lines = ["rest"] * 24
        lines[line] = text
        return lines

    def test_go_from_each_line_to_each_line(self):
        for line in range(1, 24):
            for target in range(24):
                system = pair(self.program(line, f"go {target}"), 3)
                state = ((0, 1, 2), ((line, 2), (line, 1)))
                self.check(system, state, 1, state[0], (target, 2))
                self.check(system, state, 2, state[0], (target, 1))

    # Worker 1 at own cell 1 (place 0) or at own cell 0 (place 2), worker 2 at line 0.
    TRUE = {"first": ((0, 0, 0), 0), "empty": ((0, 2, 1), 1), "mine": ((1, 0, 2), 1),
            "other": ((2, 1, 0), 1), "none": ((0, 0, 0), 1), "full": ((2, 1, 1), 1),
            "enough": ((2, 1, 1), 1), "behind": ((0, 2, 0), 1)}
    FALSE = {"first": ((0, 0, 0), 1), "empty": ((1, 0, 0), 1), "mine": ((0, 1, 1), 1),
             "other": ((1, 2, 2), 1), "none": ((0, 0, 2), 1), "full": ((2, 1, 0), 1),
             "enough": ((1, 0, 0), 1), "behind": ((1, 2, 0), 1)}

    def each(self, word):
        """All conditions and truths, with a middle line and the last line."""
        for condition in CONDITIONS:
            for truth, states in ((True, self.TRUE), (False, self.FALSE)):
                contents, pointer = states[condition]
                for line in (1, 9, 23):
                    targets = [""] if word == "wait" else [0, 1, line, 23, 12]
                    for target in targets:
                        system = pair(self.program(line, f"{word} {condition} {target}".strip()), 3)
                        state = (contents, ((line, pointer), (0, 0)))
                        yield system, state, truth, line, target

    def test_if(self):
        for system, state, truth, line, target in self.each("if"):
            after = target if truth else (line + 1) % 24
            self.check(system, state, 1, state[0], (after, state[1][0][1]))

    def test_unless(self):
        for system, state, truth, line, target in self.each("unless"):
            after = (line + 1) % 24 if truth else target
            self.check(system, state, 1, state[0], (after, state[1][0][1]))

    def test_wait(self):
        for system, state, truth, line, _ in self.each("wait"):
            after = (line + 1) % 24 if truth else line
            self.check(system, state, 1, state[0], (after, state[1][0][1]))

    def test_a_step_may_change_nothing(self):
        system = pair(["rest", "wait full", "go 2", "if none 3"], 3)
        for line in (1, 2, 3):
            state = ((0, 0, 0), ((line, 1), (0, 0)))
            self.assertEqual(system.step(state, 1), state)

    def test_conditions_for_the_second_worker(self):
        # Own cell 0 of worker 2 is at place 2.
        system = pair(["rest", "if mine 0", "if behind 0", "if enough 0"], 3, 2)
        contents = (1, 1, 2)
        self.check(system, (contents, ((0, 0), (1, 0))), 2, contents, (0, 0))
        self.check(system, (contents, ((0, 0), (1, 1))), 2, contents, (2, 1))
        self.check(system, (contents, ((0, 0), (2, 0))), 2, contents, (0, 0))
        self.check(system, (contents, ((0, 0), (3, 0))), 2, contents, (0, 0))
        self.check(system, (contents, ((2, 0), (0, 0))), 1, contents, (3, 0))

    def test_the_capacity_counts_for_enough(self):
        contents = (1, 2, 2)
        for text, no, yes in (("if enough 1", 2, 1), ("unless enough 1", 1, 2), ("wait enough", 1, 2)):
            after = [pair(["rest", text, "room"], 3, capacity)
                     .step((contents, ((1, 0), (0, 0))), 1)[1][0][0] for capacity in range(1, 7)]
            self.assertEqual(after, [no, no, yes, yes, yes, yes])

    def test_behind_whatever_line_the_other_one_is_at(self):
        program = ["rest", "if behind 0", "room", "take", "give*", "rest"]
        for line in range(6):
            state = ((0, 2, 0), ((1, 0), (line, 2)))
            self.check(pair(program, 3), state, 1, state[0], (0, 0))
            state = ((1, 2, 0), ((1, 0), (line, 2)))
            self.check(pair(program, 3), state, 1, state[0], (2, 0))


class AnyStateTest(StepTest):
    def test_too_many_workers_inside(self):
        system = pair(["rest", "take", "room", "give"], 3)
        for contents in ((0, 0, 0), (1, 1, 1), (2, 1, 0)):
            state = (contents, ((2, 1), (2, 2)))
            self.assertEqual(system.inside(state), (1, 2))
            self.check(system, state, 1, contents, (3, 1))
            self.check(system, state, 2, contents, (3, 2))

    def test_holding_while_resting(self):
        state = ((2, 2, 2), ((0, 2), (0, 1)))
        self.check(pair(["rest", "take"], 3), state, 2, state[0], (1, 1))

    def test_samples(self):
        for instructions, all_places, capacity, state in samples(5, 1500):
            system = System(Program(instructions), [Numbering(p) for p in all_places], capacity)
            for worker in range(1, len(all_places) + 1):
                after = stepped(instructions, all_places, capacity, state, worker)
                self.check(system, state, worker, after[0], after[1][worker - 1])
                self.assertEqual(after[1][:worker - 1], state[1][:worker - 1])

    def test_long_runs(self):
        chance = random.Random(3)
        for instructions, all_places, capacity, state in samples(6, 60):
            system = System(Program(instructions), [Numbering(p) for p in all_places], capacity)
            schedule = [chance.randint(1, system.workers) for _ in range(80)]
            expected = [((0,) * system.cells, ((0, 0),) * system.workers)]
            for worker in schedule:
                expected.append(stepped(instructions, all_places, capacity, expected[-1], worker))
            self.assertEqual(list(system.run(schedule)), expected)

    def test_before_start_was_asked(self):
        for instructions, all_places, capacity, state in samples(7, 40):
            numberings = [Numbering(places) for places in all_places]
            system = System(Program(instructions), numberings, capacity)
            first = system.step(state, 1)
            system.start()
            list(system.run([1, 1, 1]))
            self.assertEqual(system.step(state, 1), first)
            self.assertEqual(first, stepped(instructions, all_places, capacity, state, 1))

    def test_every_instruction_of_the_words_occurs_in_the_samples(self):
        texts = {text for instructions, _, _, _ in samples(5, 1500) for text in instructions}
        for word in SINGLE_WORDS:
            self.assertIn(word, texts)
        for condition in CONDITIONS:
            self.assertIn(f"wait {condition}", texts)
            for word in ("if", "unless"):
                self.assertTrue(any(text.startswith(f"{word} {condition} ") for text in texts))

    def test_every_condition_holds_and_does_not_in_the_samples(self):
        found = {(condition, holds(condition, state, 1, all_places[0], capacity))
                 for _, all_places, capacity, state in samples(5, 300) for condition in CONDITIONS}
        self.assertEqual(found, set(itertools.product(CONDITIONS, [True, False])))


class NoWorkerTest(unittest.TestCase):
    def test_no_worker(self):
        for text in (*SINGLE_WORDS, "go 0", "if none 1", "unless none 1", "wait none"):
            system = pair(["rest", text], 3)
            state = ((1, 0, 2), ((1, 1), (1, 2)))
            for worker in BAD_WORKERS:
                with self.subTest(text=text, worker=worker):
                    with self.assertRaises(NoWorker) as caught:
                        system.step(state, worker)
                    self.assertEqual(caught.exception.worker, worker)

    def test_each_number_of_workers(self):
        chance = random.Random(1)
        for workers in range(1, 7):
            numberings = [Numbering(some_places(chance, 2)) for _ in range(workers)]
            system = System(Program.read("rest; take"), numberings)
            for worker in range(1, workers + 1):
                self.assertEqual(system.step(system.start(), worker)[1][worker - 1], (1, 0))
            for worker in (0, workers + 1):
                with self.assertRaises(NoWorker) as caught:
                    system.step(system.start(), worker)
                self.assertEqual(caught.exception.worker, worker)


if __name__ == "__main__":
    unittest.main()
