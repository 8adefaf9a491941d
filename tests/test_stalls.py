"""Stalls: points 12 and 14. Which stall is returned is not promised, so each is checked by what it is."""

import itertools
import random
import unittest

from answers import (AnswerTest, every_line, has_stall, inside, plain_system, resting, searched,
                     states_of, system_of, workers_of)
from ownlabels.errors import TooMany
from ownlabels.numbering import Numbering
from ownlabels.program import Program, standard_program
from ownlabels.search import judge
from ownlabels.system import System
from plainly import some_instructions, some_places

STANDARD = standard_program()
RESTS_AT_5 = "rest; take; if mine 5; wait mine; go 0; rest; room; go 6"


class ByHandTest(AnswerTest):
    def stall(self, system):
        answer = judge(system)
        self.check_stall(answer, system)
        return answer

    def test_a_step_that_changes_nothing(self):
        """The only way round is a step of worker 1 at line 2 or 3 that leads to the same state."""
        for text, line in (("rest; room; wait other", 2), ("rest; room; go 2", 2),
                           ("rest; room; if first 2", 2), ("rest; room; unless other 2", 2),
                           ("rest; room; take; wait none", 3)):
            with self.subTest(text=text):
                system = plain_system(text, 1, 1)
                stall = self.stall(system)
                self.assertEqual(stall.schedule[:line], (1,) * line)
                self.assertEqual(set(stall.cycle), {1})
                around = states_of(system, stall.schedule + stall.cycle)[len(stall.schedule):]
                self.assertEqual({state[1][0][0] for state in around}, {line})

    def test_a_step_that_changes_nothing_while_others_rest(self):
        for workers in range(2, 6):
            system = plain_system("rest; room; wait other", workers, 1, workers)
            stall = self.stall(system)
            self.assertTrue(set(stall.cycle) <= set(workers_of(system)))

    def test_a_step_of_a_resting_worker_that_changes_nothing(self):
        for workers in range(1, 7):
            stall = self.stall(plain_system("rest", workers, 3))
            self.assertEqual(stall.schedule, ())
            self.assertTrue(set(stall.cycle) <= set(range(1, workers + 1)))

    def test_only_resting_workers_go_round(self):
        for text in ("rest; rest", "rest; rest; rest"):
            for workers in range(1, 4):
                with self.subTest(text=text, workers=workers):
                    self.stall(plain_system(text, workers, 2))

    def test_one_worker_goes_round(self):
        for text in ("rest; on", "rest; take*; give*", "rest; on; go 1", "rest; take*; give*; go 1"):
            for workers in range(1, 4):
                with self.subTest(text=text, workers=workers):
                    self.stall(plain_system(text, workers, 2))

    def test_the_others_rest_at_another_line(self):
        # Who holds the cell rests at line 5, and another one waits at line 3 for ever.
        system = plain_system(RESTS_AT_5, 2, 1)
        stall = self.stall(system)
        state = states_of(system, stall.schedule)[-1]
        self.assertEqual(sorted(line for line, _ in state[1]), [3, 5])
        holder = [line for line, _ in state[1]].index(5) + 1
        self.assertEqual(set(stall.cycle), {3 - holder})

    def test_who_is_not_resting_at_another_line_steps(self):
        # Another step instead of the rest of line 5: who holds the cell comes in again and again.
        for word in ("on", "take", "if first 6", "wait first"):
            system = plain_system(RESTS_AT_5.replace("go 0; rest", f"go 0; {word}"), 2, 1)
            self.assertFalse(has_stall(system, searched(system)[0]))
            self.check_table(judge(system), system)

    def test_several_step_in_turn(self):
        """The standard program never stalls if only one steps again and again."""
        for places in ([(0, 1), (1, 0)], [(1, 0), (0, 1)], [(0, 1, 2, 3), (2, 3, 0, 1)],
                       [(3, 1, 0, 2), (1, 3, 2, 0)]):
            with self.subTest(places=places):
                stall = self.stall(system_of(STANDARD.text, *places))
                self.assertEqual(set(stall.cycle), {1, 2})

    def test_two_of_three_step_in_turn(self):
        stall = self.stall(system_of(STANDARD.text, (0, 1), (0, 1), (1, 0)))
        self.assertIn(3, stall.cycle)
        self.assertGreater(len(set(stall.cycle)), 1)

    def test_all_of_three_step(self):
        # Nobody rests in any way round of these two; the second one ends at line 5 for everybody.
        for text in ("rest; if other 2; room; if enough 5; take; if empty 2; go 3",
                     "rest; take; room; room; unless other 3; unless none 5; room"):
            stall = self.stall(system_of(text, (0, 1, 2), (1, 2, 0), (2, 0, 1), capacity=3))
            self.assertEqual(set(stall.cycle), {1, 2, 3})

    def test_where_somebody_can_be_inside_before(self):
        # Who has been inside once never comes back, and everybody goes round in the end.
        system = plain_system("rest; room; on; go 2", 3, 2, 3)
        stall = self.stall(system)
        many = [inside(system, state) for state in states_of(system, stall.schedule)]
        self.assertNotEqual(stall.schedule, ())
        self.assertTrue(any(many))

    def test_thousands_of_steps(self):
        # The worker counts: a cell that it holds is a 1, and giving it back carries a 1 to the next.
        system = plain_system("rest; if mine 6; take; if first 1; on*; go 1; give; go 1", 1, 9)
        answer = judge(system, 10000)
        self.check_stall(answer, system)
        self.assertGreater(len(answer.cycle), 4000)
        self.assertEqual(len(answer.report()), 2 + len(answer.schedule) + 1 + len(answer.cycle) + 1)

    def test_the_example_of_the_document(self):
        system = system_of(STANDARD.text, (0, 1), (1, 0))
        self.assertEqual(judge(system).KIND, "stall")


class ExactlyTest(AnswerTest):
    """A Stall exactly if the system has one, and each Table without a stall in it."""

    def check_programs(self, lines, workers, cells, capacity):
        kinds = {"crowd": 0, "stall": 0, "table": 0}
        rows = list(itertools.permutations(range(cells)))
        for number, row in enumerate(itertools.product(every_line(lines), repeat=lines - 1)):
            # The numberings of the workers behind the first one change from program to program.
            places = [rows[0]] + [rows[(number + worker) % len(rows)] for worker in range(1, workers)]
            system = system_of("; ".join(["rest", *row]), *places, capacity=capacity)
            answer = judge(system)
            self.check_search(answer, system)
            kinds[answer.KIND] += 1
        return kinds

    def test_all_programs_of_one_line(self):
        for workers, cells, capacity in itertools.product(range(1, 7), range(1, 4), (1, 6)):
            system = plain_system("rest", workers, cells, capacity)
            self.check_search(judge(system), system)

    def test_all_programs_of_two_lines(self):
        for workers, cells, capacity in itertools.product((1, 2, 3), (1, 2), (1, 3)):
            kinds = self.check_programs(2, workers, cells, capacity)
            self.assertEqual(sum(kinds.values()), 50)
            self.assertGreater(kinds["stall"], 0)

    def test_all_programs_of_three_lines_with_one_worker(self):
        for cells in (1, 2):
            kinds = self.check_programs(3, 1, cells, 1)
            self.assertEqual(sum(kinds.values()), 67 ** 2)
            self.assertGreater(kinds["table"], 50)

    def test_all_programs_of_three_lines_with_two_workers(self):
        kinds = self.check_programs(3, 2, 1, 1)
        self.assertGreater(kinds["crowd"], 50)
        kinds = self.check_programs(3, 2, 2, 2)
        self.assertGreater(kinds["table"], 50)

    def test_random_programs(self):
        chance = random.Random(71)
        kinds = []
        for _ in range(500):
            rows = some_instructions(chance, chance.randint(3, 8))
            rows[chance.randrange(1, len(rows))] = "room"
            workers, cells = chance.randint(1, 3), chance.randint(1, 3)
            numberings = [Numbering(some_places(chance, cells)) for _ in range(workers)]
            system = System(Program(rows), numberings, chance.choice([1, workers]))
            try:
                answer = judge(system, 250)
            except TooMany:
                continue
            self.check_search(answer, system)
            kinds.append((answer.KIND, workers))
        for kind, workers in itertools.product(("stall", "table"), (1, 2, 3)):
            self.assertGreater(kinds.count((kind, workers)), 10)

    def test_programs_like_the_standard_program(self):
        """One line is another one, or two lines change their places: some stall, some do not."""
        chance = random.Random(72)
        kinds, chosen = [], set()
        for _ in range(250):
            rows = list(STANDARD.instructions)
            at, other = chance.randrange(1, 9), chance.randrange(1, 9)
            if chance.random() < 0.5:
                rows[at] = chance.choice(every_line(9))
            else:
                rows[at], rows[other] = rows[other], rows[at]
            workers, cells = chance.choice([(1, 2), (2, 1), (2, 1), (2, 2), (3, 1)])
            numberings = [Numbering(some_places(chance, cells)) for _ in range(workers)]
            system = System(Program(rows), numberings, chance.randint(1, 2))
            if len(searched(system)[0]) <= 300:
                answer = judge(system)
                self.check_search(answer, system)
                kinds.append(answer.KIND)
                if answer.KIND == "table":
                    chosen.add(len(set(answer.helpers)))
        self.assertGreater(kinds.count("stall"), 20)
        self.assertGreater(kinds.count("table"), 20)
        # Tables without a helper, and tables with several ones.
        self.assertTrue({1, 3} <= chosen)

    def test_everybody_who_does_not_step_is_resting(self):
        """The same programs with and without a rest where the others stay."""
        for word, kind in (("rest", "stall"), ("on", "table"), ("if first 6", "table")):
            for workers in (2, 3):
                system = plain_system(RESTS_AT_5.replace("go 0; rest", f"go 0; {word}"), workers, 1)
                answer = judge(system)
                self.assertEqual(answer.KIND, kind)
                self.check_search(answer, system)
                if kind == "stall":
                    state = states_of(system, answer.schedule)[-1]
                    still = [worker for worker in workers_of(system) if worker not in answer.cycle]
                    self.assertTrue(set(still) <= set(resting(system, state)))


if __name__ == "__main__":
    unittest.main()
