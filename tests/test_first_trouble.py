"""All numberings: point 19, and points 16, 18 and 20 with `first_trouble`."""

import inspect
import itertools
import random
import unittest

from answers import LARGE, AnswerTest, searched
from ownlabels.errors import BadSize, TooMany
from ownlabels.numbering import Numbering
from ownlabels.program import Program, standard_program
from ownlabels.rings import lockstep, obstacle
from ownlabels.search import first_trouble, judge
from ownlabels.system import System
from plainly import some_instructions

STANDARD = standard_program()
BAD_MOST = [0, -1, -4000, 10001, 20000, LARGE, -LARGE, 10 ** 60 - 1]
# A crowd in the second of two systems, and troubles in the third one of six.
SECOND = "rest; take; take*; wait mine; on; room; unless behind 4"
THIRD_CROWD = "rest; take*; unless empty 4; room; unless other 3; unless first 6; if empty 1"
THIRD_STALL = "rest; unless first 7; take*; give; on*; on; room; if mine 6"


def all_places(workers, cells):
    """The places of all numberings of all systems in order."""
    orders = list(itertools.permutations(range(cells))) if workers > 1 else []
    for others in itertools.product(orders, repeat=workers - 1):
        yield (tuple(range(cells)), *others)


def systems(program, workers, cells, capacity):
    for places in all_places(workers, cells):
        yield System(program, [Numbering(row) for row in places], capacity)


def expected(program, workers, cells, capacity, most):
    """Point 19 with `judge`: the report of the first trouble, None, or the number of TooMany."""
    for system in systems(program, workers, cells, capacity):
        try:
            answer = judge(system, most)
        except TooMany as error:
            return error.most
        if answer.KIND != "table":
            return answer.report()
    return None


def some_program(chance):
    rows = some_instructions(chance, chance.randint(3, 8))
    rows[chance.randrange(1, len(rows))] = "room"
    return Program(rows)


class FirstTest(AnswerTest):
    def check(self, program, workers, cells, capacity, most):
        """What is returned or raised against `judge`, system by system."""
        outcome = expected(program, workers, cells, capacity, most)
        try:
            answer = first_trouble(program, workers, cells, capacity, most)
        except TooMany as error:
            self.assertEqual(error.most, outcome)
            return "too many"
        if outcome is None:
            self.assertIsNone(answer)
            return "none"
        self.assertEqual(answer.report(), outcome)
        self.assertIs(answer.system.program, program)
        self.check_answer(answer, answer.system)
        return answer.KIND

    def places_of(self, text, workers, cells, capacity):
        answer = first_trouble(Program.read(text), workers, cells, capacity)
        self.check_answer(answer, answer.system)
        return answer.KIND, [numbering.places for numbering in answer.system.numberings]

    def test_the_first_system(self):
        for text, workers, cells, capacity, kind in (
                ("rest; room", 2, 1, 1, "crowd"), ("rest; room", 3, 3, 2, "crowd"),
                ("rest; room", 6, 2, 5, "crowd"), ("rest", 3, 3, 1, "stall"),
                ("rest; on", 1, 12, 1, "stall"), (STANDARD.text, 2, 2, 1, "stall")):
            with self.subTest(text=text, workers=workers, cells=cells):
                self.assertEqual(self.places_of(text, workers, cells, capacity),
                                 (kind, [tuple(range(cells))] * workers))

    def test_a_later_system(self):
        self.assertEqual(self.places_of(SECOND, 2, 2, 1), ("crowd", [(0, 1), (1, 0)]))
        self.assertEqual(self.places_of(THIRD_CROWD, 2, 3, 1), ("crowd", [(0, 1, 2), (1, 0, 2)]))
        self.assertEqual(self.places_of(THIRD_STALL, 2, 3, 2), ("stall", [(0, 1, 2), (1, 0, 2)]))

    def test_the_last_numbering_changes_fastest(self):
        """One worker with another numbering is enough for trouble, and it is the last one."""
        plain, other = (0, 1), (1, 0)
        for text, workers, capacity, kind in (
                (SECOND, 3, 1, "crowd"), (SECOND, 4, 1, "crowd"),
                ("rest; rest; take*; wait mine; room; if mine 4", 3, 1, "crowd"),
                ("rest; if other 1; room; on; take*", 3, 3, "stall"),
                ("rest; room; on; take; if other 2; room", 3, 3, "stall")):
            with self.subTest(text=text, workers=workers):
                self.assertEqual(self.places_of(text, workers, 2, capacity),
                                 (kind, [plain] * (workers - 1) + [other]))
        self.assertEqual(self.places_of("rest; give*; take; wait empty; room", 3, 3, 3),
                         ("stall", [(0, 1, 2), (0, 1, 2), (1, 0, 2)]))

    def test_also_the_numbering_before_the_last_one_changes(self):
        for text, places in (
                ("rest; on; rest; room; on; take*; if full 5", [(0, 1, 2), (0, 2, 1), (1, 2, 0)]),
                ("rest; take; if full 1; room; unless other 3; room; go 2",
                 [(0, 1, 2), (1, 0, 2), (2, 0, 1)])):
            with self.subTest(text=text):
                self.assertEqual(self.places_of(text, 3, 3, 3), ("stall", places))

    def test_none(self):
        for text, workers, cells, capacity in (
                ("rest; room", 1, 12, 1), ("rest; room", 6, 2, 6), ("rest; room", 3, 3, 3),
                ("rest; take*; if behind 0; take*; unless enough 6; room; give*", 2, 3, 1),
                ("rest; take; wait enough; give; room; if empty 1; go 4; wait other", 3, 2, 2)):
            with self.subTest(text=text, workers=workers, cells=cells):
                self.assertIsNone(first_trouble(Program.read(text), workers, cells, capacity, 10000))

    def test_against_judge(self):
        chance = random.Random(102)
        outcomes = {}
        for _ in range(300):
            program = some_program(chance)
            workers, cells = chance.choice([(1, 3), (2, 2), (2, 3), (3, 2), (4, 1), (2, 1)])
            capacity = chance.choice([1, 1, 2, workers])
            most = chance.choice([1, 2, 20, 100, 300])
            outcome = self.check(program, workers, cells, capacity, most)
            outcomes[outcome] = outcomes.get(outcome, 0) + 1
        self.assertEqual(set(outcomes), {"none", "crowd", "stall", "too many"})
        self.assertGreater(min(outcomes.values()), 10)

    def test_the_standard_program_without_an_obstacle(self):
        for workers, cells, capacity in ((1, 1, 1), (1, 12, 6), (2, 1, 1), (2, 2, 2), (2, 3, 1),
                                         (2, 4, 2), (3, 1, 1), (3, 2, 2), (2, 3, 3), (4, 1, 1)):
            with self.subTest(workers=workers, cells=cells, capacity=capacity):
                self.assertEqual(obstacle(workers, cells, capacity), 0)
                self.assertIsNone(first_trouble(STANDARD, workers, cells, capacity, 10000))

    def test_the_standard_program_with_an_obstacle(self):
        for workers, cells in ((2, 2), (2, 4), (3, 2)):
            answer = first_trouble(STANDARD, workers, cells, 1, 10000)
            self.check_stall(answer, answer.system)

    def test_never_none_where_there_is_an_obstacle(self):
        chance = random.Random(103)
        sizes = [sizes for sizes in itertools.product(range(2, 5), range(2, 5), range(1, 4))
                 if obstacle(*sizes) and len(list(all_places(*sizes[:2]))) <= 36]
        self.assertIn((3, 3, 2), sizes)
        found = 0
        for number in range(400):
            workers, cells, capacity = sizes[number % len(sizes)]
            program = some_program(chance)
            try:
                answer = first_trouble(program, workers, cells, capacity, 700)
            except TooMany:
                continue
            self.assertIn(answer.KIND, ("crowd", "stall"))
            self.check_answer(answer, answer.system)
            # The lockstep run is in trouble, too.
            self.assertIn(lockstep(program, workers, cells, capacity).KIND, ("crowd", "stall"))
            found += 1
        self.assertGreater(found, 200)


class MostTest(AnswerTest):
    def counts(self, text, workers, cells, capacity):
        """For each system its kind and the number of its found states."""
        return [(judge(system, 10000).KIND, len(searched(system)[0]))
                for system in systems(Program.read(text), workers, cells, capacity)]

    def test_too_many_at_once(self):
        program = Program.read(THIRD_CROWD)
        (_, first), (_, second), (kind, third) = self.counts(THIRD_CROWD, 2, 3, 1)[:3]
        self.assertEqual(kind, "crowd")
        self.assertTrue(third < second < first)
        # The first system has too many states, the third one would have a crowd.
        for most in (1, third, second, first - 1):
            with self.assertRaises(TooMany) as caught:
                first_trouble(program, 2, 3, 1, most)
            self.assertEqual(caught.exception.most, most)
        self.assertEqual(first_trouble(program, 2, 3, 1, first).KIND, "crowd")

    def test_too_many_in_a_later_system(self):
        program = Program.read(THIRD_STALL)
        (_, first), (_, second), (kind, third) = self.counts(THIRD_STALL, 2, 3, 2)[:3]
        self.assertEqual(kind, "stall")
        self.assertTrue(second < first < third)
        for most in (first, third - 1):
            with self.assertRaises(TooMany) as caught:
                first_trouble(program, 2, 3, 2, most)
            self.assertEqual(caught.exception.most, most)
        self.assertEqual(first_trouble(program, 2, 3, 2, third).KIND, "stall")

    def test_trouble_before_a_system_with_too_many(self):
        chance = random.Random(104)
        kinds = []
        while len(kinds) < 10:
            program = some_program(chance)
            counts = [(judge(system, 10000).KIND, len(searched(system)[0]))
                      for system in systems(program, 2, 2, 1)]
            if counts[0][0] != "table" and counts[0][1] < counts[1][1]:
                kind, most = counts[0]
                self.assertEqual(first_trouble(program, 2, 2, 1, most).KIND, kind)
                if most > 1:
                    with self.assertRaises(TooMany) as caught:
                        first_trouble(program, 2, 2, 1, most - 1)
                    self.assertEqual(caught.exception.most, most - 1)
                kinds.append(kind)

    def test_4000_where_none_is_passed(self):
        for workers, cells in ((6, 2), (3, 3), (5, 1), (6, 1)):
            with self.assertRaises(TooMany) as caught:
                first_trouble(STANDARD, workers, cells, workers)
            self.assertEqual(caught.exception.most, 4000)
        with self.assertRaises(TooMany) as caught:
            first_trouble(STANDARD, 4, 1)
        self.assertEqual(caught.exception.most, 4000)
        self.assertIsNone(first_trouble(STANDARD, 4, 1, 1, 10000))

    def test_one(self):
        self.assertEqual(first_trouble(Program.read("rest"), 3, 3, 1, 1).KIND, "stall")
        with self.assertRaises(TooMany) as caught:
            first_trouble(Program.read("rest; on"), 1, 1, most=1)
        self.assertEqual(caught.exception.most, 1)


class PassedTest(AnswerTest):
    def test_signature(self):
        self.assertEqual(str(inspect.signature(first_trouble)),
                         "(program, workers, cells, capacity=1, most=4000)")

    def test_by_position_and_by_name(self):
        report = first_trouble(STANDARD, 2, 2, 1, 300).report()
        for answer in (first_trouble(STANDARD, 2, 2, 1, most=300), first_trouble(STANDARD, 2, 2),
                       first_trouble(STANDARD, 2, 2, capacity=1, most=300),
                       first_trouble(STANDARD, 2, 2, most=300, capacity=1)):
            self.assertEqual(answer.report(), report)
        self.assertIsNone(first_trouble(STANDARD, 2, 2, capacity=2))
        self.assertIsNone(first_trouble(STANDARD, 2, 2, 2))
        self.assertEqual(first_trouble(Program.read("rest; room"), 3, 2, capacity=2).report()[0],
                         "3 workers, 2 cells, capacity 2")

    def test_what_was_passed_as_it_was(self):
        program = Program.read(SECOND)
        first = first_trouble(program, 2, 2)
        second = first_trouble(program, 2, 2)
        self.assertIsNot(first, second)
        self.assertEqual(first.report(), second.report())
        self.assertEqual(program.text, SECOND)

    def test_up_to_36_combinations(self):
        # Where nobody ever comes in a second time, each system is searched and has a table.
        program = Program.read("rest; room")
        for workers, cells in ((1, 1), (1, 6), (1, 7), (1, 12), (2, 1), (2, 4), (3, 3), (4, 2), (6, 2),
                               (5, 2), (6, 1)):
            with self.subTest(workers=workers, cells=cells):
                self.assertLessEqual(len(list(all_places(workers, cells))), 36)
                self.assertIsNone(first_trouble(program, workers, cells, 6))
                answer = first_trouble(Program.read("rest"), workers, cells)
                self.assertEqual(answer.KIND, "stall")

    def test_more_combinations(self):
        for text in ("rest", "rest; room", STANDARD.text):
            for workers, cells in ((3, 4), (2, 5), (4, 3), (2, 12), (6, 3), (6, 12), (5, 4), (2, 6), (2, 7)):
                for call in (lambda: first_trouble(Program.read(text), workers, cells),
                             lambda: first_trouble(Program.read(text), workers, cells, 6, 1)):
                    with self.subTest(workers=workers, cells=cells), self.assertRaises(BadSize):
                        call()

    def test_bad_sizes(self):
        for bad in (0, -1, -2, LARGE, -LARGE, 10 ** 60 - 1):
            for workers, cells, capacity in ((bad, 1, 1), (1, bad, 1), (1, 1, bad), (bad, bad, bad),
                                             (2, bad, 2), (bad, 2, 1), (2, 2, bad)):
                with self.subTest(sizes=(workers, cells, capacity)), self.assertRaises(BadSize):
                    first_trouble(STANDARD, workers, cells, capacity)
        for workers, cells, capacity in ((7, 1, 1), (1, 13, 1), (1, 1, 7), (7, 2, 1), (1, 100, 1), (2, 1, 8)):
            with self.subTest(sizes=(workers, cells, capacity)), self.assertRaises(BadSize):
                first_trouble(STANDARD, workers, cells, capacity)
            with self.subTest(sizes=(workers, cells, capacity)), self.assertRaises(BadSize):
                first_trouble(STANDARD, workers, cells, capacity=capacity, most=10)

    def test_at_the_limits(self):
        program = Program.read("rest; room")
        for workers, cells, capacity, most in ((6, 2, 6, 10000), (1, 12, 6, 10000), (1, 1, 1, 2),
                                               (6, 1, 6, 64), (1, 12, 1, 2)):
            self.assertIsNone(first_trouble(program, workers, cells, capacity, most))

    def test_bad_most(self):
        for most in BAD_MOST:
            for call in (lambda: first_trouble(STANDARD, 1, 1, 1, most),
                         lambda: first_trouble(STANDARD, 2, 2, most=most),
                         lambda: first_trouble(Program.read("rest"), 3, 3, 1, most)):
                with self.subTest(most=most), self.assertRaises(BadSize):
                    call()


if __name__ == "__main__":
    unittest.main()
