"""Reports of the answers of `judge`, `first_trouble` and `lockstep`: point 27."""

import random
import unittest

from answers import AnswerTest, inside, plain_system, searched, states_of, system_of
from ownlabels.errors import TooMany
from ownlabels.numbering import Numbering
from ownlabels.program import Program, standard_program
from ownlabels.rings import lockstep, obstacle
from ownlabels.search import first_trouble, judge
from ownlabels.system import System
from plainly import some_instructions, some_places

STANDARD = standard_program()


def expected(answer):
    """Point 27 in the test, from the system and from what the answer has."""
    system = answer.system
    texts = [f"{system.workers} workers, {system.cells} cells, capacity {system.capacity}"]
    for worker, numbering in enumerate(system.numberings, 1):
        texts.append(f"worker {worker}: " + " ".join(map(str, numbering.places)))
    if answer.KIND == "table":
        return texts + [f"{len(answer.states)} states, at most {max(answer.ranks)} steps"]
    steps = answer.schedule + (answer.cycle if answer.KIND == "stall" else ())
    states = states_of(system, steps)
    rows = []
    for number, worker in enumerate(steps, 1):
        line = states[number - 1][1][worker - 1][0]
        rows.append(str(number).rjust(4) + f" {worker} {system.program.instructions[line]}")
    if answer.KIND == "crowd":
        numbers = " ".join(map(str, inside(system, states[-1])))
        return texts + rows + [f"crowd: {numbers}"]
    return [*texts, *rows[:len(answer.schedule)], "cycle:", *rows[len(answer.schedule):], "stall"]


class ReportTest(AnswerTest):
    def check(self, answer):
        report = answer.report()
        self.assertIs(type(report), list)
        self.assertEqual({type(text) for text in report}, {str})
        self.assertEqual(report, expected(answer))
        # What is done to a report has no effect on the next one.
        kept = list(report)
        report.append("more")
        report[0] = "changed"
        del report[1:3]
        self.assertEqual(answer.report(), kept)
        answer.report().clear()
        self.assertEqual(answer.report(), kept)
        return kept

    def test_the_example_of_the_document(self):
        self.assertEqual(self.check(judge(plain_system("rest; room", 2, 1))), [
            "2 workers, 1 cells, capacity 1", "worker 1: 0", "worker 2: 0", "   1 1 rest",
            "   2 2 rest", "crowd: 1 2"])

    def test_crowds(self):
        self.assertEqual(self.check(judge(system_of("rest; take; if other 2; room", (0, 2, 1), (1, 0, 2),
                                                    (1, 0, 2)))), [
            "3 workers, 3 cells, capacity 1", "worker 1: 0 2 1", "worker 2: 1 0 2", "worker 3: 1 0 2",
            "   1 1 rest", "   2 2 rest", "   3 2 take", "   4 2 if other 2", "   5 1 take",
            "   6 1 if other 2", "crowd: 1 2"])
        self.assertEqual(self.check(first_trouble(Program.read("rest; on; room"), 3, 2, 2)), [
            "3 workers, 2 cells, capacity 2", "worker 1: 0 1", "worker 2: 0 1", "worker 3: 0 1",
            "   1 1 rest", "   2 1 on", "   3 2 rest", "   4 2 on", "   5 3 rest", "   6 3 on",
            "crowd: 1 2 3"])
        self.assertEqual(self.check(lockstep(Program.read("rest; on*; room"), 6, 3, 1, Numbering([2, 0, 1]))), [
            "6 workers, 3 cells, capacity 1", "worker 1: 2 0 1", "worker 2: 0 1 2", "worker 3: 1 2 0",
            "worker 4: 2 0 1", "worker 5: 2 0 1", "worker 6: 2 0 1",
            "   1 1 rest", "   2 2 rest", "   3 3 rest", "   4 1 on*", "   5 2 on*", "   6 3 on*",
            "   7 1 on*", "   8 2 on*", "   9 3 on*", "  10 1 on*", "  11 2 on*", "crowd: 1 2"])

    def test_stalls(self):
        self.assertEqual(self.check(lockstep(STANDARD, 2, 2)), [
            "2 workers, 2 cells, capacity 1", "worker 1: 0 1", "worker 2: 1 0",
            "   1 1 rest", "   2 2 rest", "   3 1 take*", "   4 2 take*", "cycle:",
            "   5 1 take*", "   6 2 take*", "   7 1 if enough 7", "   8 2 if enough 7",
            "   9 1 unless behind 1", "  10 2 unless behind 1", "  11 1 take*", "  12 2 take*", "stall"])
        self.assertEqual(self.check(lockstep(Program.read("rest"), 2, 2)), [
            "2 workers, 2 cells, capacity 1", "worker 1: 0 1", "worker 2: 1 0",
            "cycle:", "   1 1 rest", "   2 2 rest", "stall"])
        for report in (self.check(judge(plain_system("rest; room; wait other", 1, 1))),
                       self.check(first_trouble(Program.read("rest; room; wait other"), 1, 1))):
            self.assertEqual(report[:6], ["1 workers, 1 cells, capacity 1", "worker 1: 0", "   1 1 rest",
                                          "   2 1 room", "cycle:", "   3 1 wait other"])
            self.assertEqual(report[-1], "stall")

    def test_tables(self):
        self.assertEqual(self.check(judge(plain_system("rest; room", 1, 1))),
                         ["1 workers, 1 cells, capacity 1", "worker 1: 0", "2 states, at most 1 steps"])
        self.assertEqual(self.check(judge(plain_system("rest; room; room", 2, 2, 2))), [
            "2 workers, 2 cells, capacity 2", "worker 1: 0 1", "worker 2: 0 1", "9 states, at most 4 steps"])
        system = system_of(STANDARD.text, (2, 0, 1), (0, 1, 2))
        schedules = searched(system)[0].values()
        self.assertEqual(self.check(judge(system))[-1],
                         f"{len(schedules)} states, at most {max(map(len, schedules))} steps")

    def test_numbers_of_more_digits(self):
        text = "rest; go 7; take*; give; unless empty 3; take; on*; rest; on*; unless mine 3; take*"
        report = self.check(lockstep(Program.read(text), 2, 12))
        self.assertEqual(report[3], "   1 1 rest")
        self.assertEqual(report[3 + 28150], "cycle:")
        self.assertEqual(report[2 + 28150].split(" ")[0], "28150")
        self.assertEqual(report[4 + 28150].split(" ")[0], "28151")
        self.assertEqual([text[:5] for text in report[1001:1003]], [" 999 ", "1000 "])
        self.assertEqual([text[:6] for text in report[10001:10003]], ["9999 1", "10000 "])

    def test_random_answers(self):
        chance = random.Random(121)
        kinds = []
        for _ in range(300):
            rows = some_instructions(chance, chance.randint(2, 8))
            rows[chance.randrange(1, len(rows))] = "room"
            program = Program(rows)
            workers, cells = chance.choice([(1, 1), (1, 4), (2, 1), (2, 2), (2, 3), (3, 1), (3, 2), (6, 1)])
            capacity = chance.choice([1, 2, workers])
            numberings = [Numbering(some_places(chance, cells)) for _ in range(workers)]
            try:
                answers = [judge(System(program, numberings, capacity), 300),
                           first_trouble(program, workers, cells, capacity, 300)]
            except TooMany:
                continue
            if obstacle(workers, cells, capacity):
                answers.append(lockstep(program, workers, cells, capacity))
            for answer in answers:
                if answer is not None:
                    self.check(answer)
                    kinds.append(answer.KIND)
        for kind in ("crowd", "stall", "table"):
            self.assertGreater(kinds.count(kind), 30)

    def test_lockstep_of_all_sizes(self):
        chance = random.Random(122)
        for workers in range(2, 7):
            for cells in range(2, 13):
                for capacity in range(1, workers):
                    if obstacle(workers, cells, capacity):
                        program = Program(some_instructions(chance, chance.randint(2, 24)))
                        self.check(lockstep(program, workers, cells, capacity))


if __name__ == "__main__":
    unittest.main()
