"""Systems: points 1, 8 and 9 and what ownlabels/system.py says of making and asking them."""

import inspect
import unittest

from ownlabels.errors import BadInstruction, BadSize, NoWorker
from ownlabels.numbering import Numbering
from ownlabels.program import Program, standard_program
from ownlabels.system import System, assemble
from plainly import CONDITIONS, holds, samples

LARGE = 10 ** 60 - 1
PROGRAM = Program.read("rest; take; room; give*")
THREE = [Numbering([2, 0, 1]), Numbering([0, 1, 2]), Numbering([1, 0, 2])]
BAD_CAPACITIES = [0, -1, 7, 8, -6, LARGE, -LARGE]
BAD_WORKERS = [0, -1, -2, -3, 4, 5, 7, LARGE, -LARGE]


def plain(cells, workers):
    return [Numbering.plain(cells) for _ in range(workers)]


class MakingTest(unittest.TestCase):
    def check(self, system, numberings, capacity):
        self.assertIs(type(system), System)
        self.assertIs(system.program, PROGRAM)
        self.assertIs(type(system.numberings), tuple)
        self.assertEqual(len(system.numberings), len(numberings))
        for mine, passed in zip(system.numberings, numberings):
            self.assertIs(mine, passed)
        self.assertEqual((system.workers, system.cells, system.capacity),
                         (len(numberings), len(numberings[0]), capacity))
        for number in (system.workers, system.cells, system.capacity):
            self.assertIs(type(number), int)

    def test_from_a_list(self):
        given = list(THREE)
        self.check(System(PROGRAM, given), THREE, 1)
        self.assertEqual(given, THREE)
        self.assertIs(type(given), list)

    def test_from_a_tuple(self):
        self.check(System(PROGRAM, tuple(THREE)), THREE, 1)

    def test_capacity_by_position_and_by_name(self):
        for capacity in range(1, 7):
            self.check(System(PROGRAM, THREE, capacity), THREE, capacity)
            self.check(System(PROGRAM, THREE, capacity=capacity), THREE, capacity)
            self.check(System(PROGRAM, tuple(THREE), capacity=capacity), THREE, capacity)

    def test_every_number_of_workers_and_cells(self):
        for workers in range(1, 7):
            for cells in range(1, 13):
                numberings = plain(cells, workers)
                self.check(System(PROGRAM, numberings), numberings, 1)
                self.check(System(PROGRAM, tuple(numberings), 6), numberings, 6)

    def test_later_changes_of_the_list_have_no_effect(self):
        given = list(THREE)
        system = System(PROGRAM, given, 2)
        given[0] = Numbering.plain(5)
        given.append(Numbering.plain(3))
        self.check(system, THREE, 2)
        self.assertEqual(system.start(), ((0, 0, 0), ((0, 0), (0, 0), (0, 0))))
        self.assertEqual(system.step(((0, 0, 0), ((1, 0), (0, 0), (0, 0))), 1),
                         ((0, 0, 1), ((2, 1), (0, 0), (0, 0))))

    def test_attributes_are_set_on_each_object(self):
        for name in ("program", "numberings", "workers", "cells", "capacity"):
            self.assertIn(name, vars(System(PROGRAM, THREE)))

    def test_assemble(self):
        self.check(assemble(PROGRAM, *THREE), THREE, 1)
        self.check(assemble(PROGRAM, THREE[0]), THREE[:1], 1)
        six = plain(12, 6)
        for capacity in range(1, 7):
            self.check(assemble(PROGRAM, *THREE, capacity=capacity), THREE, capacity)
            self.check(assemble(PROGRAM, *six, capacity=capacity), six, capacity)

    def test_signatures(self):
        self.assertEqual(str(inspect.signature(System)), "(program, numberings, capacity=1)")
        self.assertEqual(str(inspect.signature(assemble)), "(program, *numberings, capacity=1)")


class BadSizeTest(unittest.TestCase):
    def refuse(self, numberings, *capacity):
        with self.subTest(numberings=[n.places for n in numberings], capacity=capacity):
            given = list(numberings)
            with self.assertRaises(BadSize):
                System(PROGRAM, given, *capacity)
            self.assertEqual(given, list(numberings))
            with self.assertRaises(BadSize):
                System(PROGRAM, tuple(numberings), *capacity)
            with self.assertRaises(BadSize):
                assemble(PROGRAM, *numberings, **{"capacity": number for number in capacity})

    def test_no_numbering(self):
        self.refuse([])
        self.refuse([], 1)
        self.refuse([], 0)

    def test_too_many_numberings(self):
        for workers in (7, 8, 12, 40):
            self.refuse(plain(1, workers))
            self.refuse(plain(12, workers), 6)

    def test_different_numbers_of_cells_at_any_place(self):
        for workers in range(2, 7):
            for at in range(workers):
                for cells, other in ((3, 2), (3, 4), (1, 12), (12, 1)):
                    numberings = plain(cells, workers)
                    numberings[at] = Numbering.plain(other)
                    self.refuse(numberings)

    def test_all_different(self):
        self.refuse([Numbering.plain(cells) for cells in range(1, 7)])
        self.refuse([Numbering.plain(2), Numbering.plain(3), Numbering.plain(2)])

    def test_capacity(self):
        for capacity in BAD_CAPACITIES:
            self.refuse(THREE, capacity)
            self.refuse(THREE[:1], capacity)
            self.refuse(plain(12, 6), capacity)
            with self.assertRaises(BadSize):
                System(PROGRAM, THREE, capacity=capacity)


class StartTest(unittest.TestCase):
    def test_every_size(self):
        for workers in range(1, 7):
            for cells in range(1, 13):
                start = System(PROGRAM, plain(cells, workers)).start()
                self.assertEqual(start, (tuple([0] * cells), tuple([(0, 0)] * workers)))
                self.assertEqual([type(part) for part in (start, *start, *start[1])],
                                 [tuple] * (3 + workers))

    def test_after_other_questions(self):
        system = System(PROGRAM, THREE)
        start = system.start()
        list(system.run([1, 1, 2, 3, 3, 3]))
        system.step(start, 2)
        self.assertEqual(system.start(), start)
        self.assertEqual(start, ((0, 0, 0), ((0, 0), (0, 0), (0, 0))))


class SeesTest(unittest.TestCase):
    def check(self, system, state, worker, true):
        for condition in CONDITIONS:
            with self.subTest(state=state, worker=worker, condition=condition):
                self.assertIs(system.sees(state, worker, condition), condition in true)

    def test_by_hand(self):
        # Own cell 0 is at place 2 for worker 1, at place 0 for worker 2, at place 1 for worker 3.
        system = System(PROGRAM, THREE)
        state = ((2, 3, 0), ((1, 0), (0, 0), (2, 0)))
        self.check(system, state, 1, ["first", "empty", "behind"])
        self.check(system, state, 2, ["first", "mine"])
        self.check(system, state, 3, ["first", "mine"])
        state = ((2, 3, 2), ((3, 1), (0, 1), (0, 1)))
        self.check(system, state, 1, ["other", "full", "behind"])
        self.check(system, state, 2, ["other", "full", "enough"])
        self.check(system, state, 3, ["other", "full", "behind"])
        state = ((0, 0, 0), ((3, 2), (0, 1), (0, 0)))
        self.check(system, state, 1, ["empty", "none"])
        self.check(system, state, 3, ["first", "empty", "none"])
        state = ((1, 2, 3), ((3, 2), (0, 1), (0, 0)))
        self.check(system, state, 1, ["other", "full"])
        self.check(system, state, 2, ["mine", "full"])
        self.check(system, state, 3, ["first", "other", "full"])
        state = ((3, 0, 0), ((0, 2), (0, 1), (0, 1)))
        self.check(system, state, 1, ["empty", "behind"])
        self.check(system, state, 3, ["mine"])

    def test_one_cell(self):
        system = System(PROGRAM, plain(1, 2))
        self.check(system, ((0,), ((0, 0), (0, 0))), 1, ["first", "empty", "none"])
        self.check(system, ((2,), ((0, 0), (0, 0))), 1, ["first", "other", "full", "behind"])
        self.check(system, ((2,), ((0, 0), (0, 0))), 2, ["first", "mine", "full", "enough"])

    def test_one_worker_is_never_behind(self):
        system = System(PROGRAM, plain(3, 1))
        self.check(system, ((1, 1, 0), ((0, 1),)), 1, ["mine", "enough"])
        self.check(system, ((0, 0, 0), ((0, 1),)), 1, ["empty", "none"])
        self.check(system, ((1, 0, 0), ((0, 1),)), 1, ["empty"])

    def test_enough_for_every_share_and_capacity(self):
        for cells in range(1, 13):
            for capacity in range(1, 7):
                system = System(PROGRAM, plain(cells, 2), capacity)
                for share in range(cells + 1):
                    state = ((2,) * share + (0,) * (cells - share), ((0, 0), (0, 0)))
                    # More workers than the capacity cannot all have such a share.
                    enough = share * (capacity + 1) >= cells + 1
                    self.assertIs(system.sees(state, 2, "enough"), enough)
                    self.assertIs(system.sees(state, 1, "enough"), False)

    def test_the_capacity_of_the_system_that_is_asked(self):
        state = ((1, 2, 0), ((0, 0), (0, 0), (0, 0)))
        answers = [System(PROGRAM, THREE, capacity).sees(state, 1, "enough")
                   for capacity in range(1, 7)]
        self.assertEqual(answers, [False, False, True, True, True, True])

    def test_whatever_the_instruction_is(self):
        texts = ["rest", "room", "take", "give*", "on", "go 1", "wait none", "if mine 0"]
        for text in texts:
            system = System(Program(["rest", text]), THREE)
            for line in (0, 1):
                state = ((2, 3, 2), ((line, 1), (line, 1), (line, 2)))
                self.check(system, state, 1, ["other", "full", "behind"])
                self.check(system, state, 2, ["other", "full", "enough"])
                self.check(system, state, 3, ["other", "full", "behind"])

    def test_samples(self):
        for instructions, all_places, capacity, state in samples(11, 400):
            system = System(Program(instructions), [Numbering(p) for p in all_places], capacity)
            for worker, places in enumerate(all_places, start=1):
                self.check(system, state, worker,
                           [c for c in CONDITIONS if holds(c, state, worker, places, capacity)])

    def test_no_worker(self):
        system = System(PROGRAM, THREE)
        for worker in BAD_WORKERS:
            for text in [*CONDITIONS, "nonsense", "", "First"]:
                with self.subTest(worker=worker, text=text):
                    with self.assertRaises(NoWorker) as caught:
                        system.sees(system.start(), worker, text)
                    self.assertEqual(caught.exception.worker, worker)

    def test_no_condition(self):
        system = System(PROGRAM, THREE)
        texts = ["", " ", "nonsense", "rest", "room", "take", "wait none", "if none 0", "0", "1",
                 "none full", "first first", "holds", "free", "not none", "*", "enough*"]
        for condition in CONDITIONS:
            texts += [condition + "s", "s" + condition, condition[:-1], condition[1:],
                      condition.upper(), condition.title(), condition + " ", " " + condition,
                      condition + condition, condition[:2] + " " + condition[2:]]
        for text in texts:
            for worker in (1, 2, 3):
                with self.subTest(text=text, worker=worker):
                    with self.assertRaises(BadInstruction) as caught:
                        system.sees(system.start(), worker, text)
                    self.assertEqual(caught.exception.instruction, text)


class WhoTest(unittest.TestCase):
    PROGRAM = Program.read("rest; room; take; rest; room; on*; rest")

    def check(self, lines, inside, resting):
        system = System(self.PROGRAM, plain(3, len(lines)))
        for contents in ((0, 0, 0), (1, 1, 1)):
            state = (contents, tuple((line, 1) for line in lines))
            with self.subTest(lines=lines):
                for _ in range(2):
                    self.assertEqual(system.inside(state), inside)
                    self.assertEqual(system.resting(state), resting)
                self.assertIs(type(system.inside(state)), tuple)
                self.assertIs(type(system.resting(state)), tuple)

    def test_each_line(self):
        for line in range(7):
            self.check([line], (1,) if line in (1, 4) else (), (1,) if line in (0, 3, 6) else ())

    def test_six_workers(self):
        self.check([0, 0, 0, 0, 0, 0], (), (1, 2, 3, 4, 5, 6))
        self.check([1, 4, 1, 4, 4, 1], (1, 2, 3, 4, 5, 6), ())
        self.check([4, 3, 2, 1, 0, 5], (1, 4), (2, 5))
        self.check([6, 1, 6, 1, 3, 4], (2, 4, 6), (1, 3, 5))
        self.check([2, 5, 2, 5, 2, 5], (), ())

    def test_in_either_order_and_about_different_states(self):
        system = System(self.PROGRAM, plain(2, 2))
        first = ((0, 0), ((1, 0), (3, 0)))
        second = ((0, 0), ((6, 0), (4, 1)))
        self.assertEqual(system.resting(first), (2,))
        self.assertEqual(system.inside(second), (2,))
        self.assertEqual(system.inside(first), (1,))
        self.assertEqual(system.resting(second), (1,))
        self.assertEqual(system.resting(first), (2,))

    def test_a_program_without_room(self):
        system = System(Program.read("rest; take"), plain(2, 2))
        self.assertEqual(system.inside(((0, 0), ((0, 0), (1, 0)))), ())
        self.assertEqual(system.resting(((0, 0), ((1, 0), (1, 0)))), ())

    def test_inside_from_the_moment_of_coming_to_the_line(self):
        system = System(Program.read("rest; room"), plain(1, 1))
        states = list(system.run([1, 1, 1]))
        self.assertEqual([system.inside(state) for state in states], [(), (1,), (), (1,)])
        self.assertEqual([system.resting(state) for state in states], [(1,), (), (1,), ()])


class RunTest(unittest.TestCase):
    STATES = [((0, 0, 0), ((0, 0), (0, 0), (0, 0))),
              ((0, 0, 0), ((1, 0), (0, 0), (0, 0))),
              ((0, 0, 1), ((2, 1), (0, 0), (0, 0))),
              ((0, 0, 1), ((2, 1), (0, 0), (1, 0))),
              ((0, 3, 1), ((2, 1), (0, 0), (2, 1))),
              ((0, 3, 1), ((3, 1), (0, 0), (2, 1)))]

    def test_a_list_and_a_tuple(self):
        system = System(PROGRAM, THREE)
        for schedule in ([1, 1, 3, 3, 1], (1, 1, 3, 3, 1)):
            self.assertEqual(list(system.run(schedule)), self.STATES)
        self.assertEqual(system.start(), self.STATES[0])

    def test_the_empty_schedule(self):
        system = System(PROGRAM, THREE)
        for schedule in ([], ()):
            self.assertEqual(list(system.run(schedule)), self.STATES[:1])

    def test_is_a_generator(self):
        self.assertTrue(inspect.isgeneratorfunction(System.run))
        self.assertTrue(inspect.isgenerator(System(PROGRAM, THREE).run([1])))

    def test_one_state_more_than_steps(self):
        system = System(standard_program(), plain(4, 3))
        schedule = [1, 2, 3, 3, 1] * 30
        for count in (0, 1, 2, 17, 150):
            self.assertEqual(len(list(system.run(schedule[:count]))), count + 1)

    def test_each_state_is_a_step_after_the_one_before(self):
        system = System(standard_program(), THREE)
        schedule = [1, 2, 3, 3, 2, 1, 1] * 12
        states = list(system.run(schedule))
        for before, worker, after in zip(states, schedule, states[1:]):
            self.assertEqual(system.step(before, worker), after)

    def test_the_schedule_as_it_was(self):
        schedule = [1, 1, 3, 3, 1]
        list(System(PROGRAM, THREE).run(schedule))
        self.assertEqual(schedule, [1, 1, 3, 3, 1])

    def test_later_changes_of_the_schedule_have_no_effect(self):
        schedule = [1, 1, 3, 3, 1]
        run = System(PROGRAM, THREE).run(schedule)
        states = [next(run), next(run)]
        schedule[2] = 7
        schedule.append(2)
        self.assertEqual([*states, *run], self.STATES)

    def test_a_second_run_while_the_first_is_not_at_its_end(self):
        system = System(PROGRAM, THREE)
        schedule = [1, 1, 3, 3, 1]
        first = system.run(schedule)
        self.assertEqual([next(first), next(first), next(first)], self.STATES[:3])
        self.assertEqual(list(system.run(schedule)), self.STATES)
        second = system.run((3,))
        self.assertEqual(next(second), self.STATES[0])
        self.assertEqual(next(first), self.STATES[3])
        self.assertEqual(list(second), [((0, 0, 0), ((0, 0), (0, 0), (1, 0)))])
        self.assertEqual(list(first), self.STATES[4:])

    def test_no_worker_only_at_its_step(self):
        system = System(PROGRAM, THREE)
        for worker in BAD_WORKERS:
            for at in range(6):
                schedule = [1, 1, 3, 3, 1]
                schedule.insert(at, worker)
                for given in (schedule, tuple(schedule)):
                    with self.subTest(schedule=given):
                        run = system.run(given)
                        states = [next(run) for _ in range(at + 1)]
                        self.assertEqual(states, self.STATES[:at + 1])
                        with self.assertRaises(NoWorker) as caught:
                            next(run)
                        self.assertEqual(caught.exception.worker, worker)


if __name__ == "__main__":
    unittest.main()
