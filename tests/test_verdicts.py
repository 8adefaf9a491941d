"""Verdicts and reports: points 1, 12 and 27 and the interface of ownlabels/verdicts.py."""

import inspect
import unittest

from ownlabels.numbering import Numbering
from ownlabels.program import Program, standard_program
from ownlabels.system import System, assemble
from ownlabels.verdicts import Crowd, Stall, Table, Trouble, Verdict

ONE = Numbering.plain(1)
TWELVE = Numbering([7, 0, 11, 3, 9, 1, 10, 2, 4, 8, 6, 5])
ROOM = assemble(Program.read("rest; room"), ONE, ONE)
ROOM_FIRST = ["2 workers, 1 cells, capacity 1", "worker 1: 0", "worker 2: 0"]
STARS = assemble(Program.read("rest; take*; room; give*; wait none; go 1"),
                 Numbering([1, 0, 2]), Numbering([2, 0, 1]), capacity=2)
STARS_FIRST = ["2 workers, 3 cells, capacity 2", "worker 1: 1 0 2", "worker 2: 2 0 1"]
WAITING = assemble(Program.read("rest; wait full; go 1"), ONE)
WAITING_FIRST = ["1 workers, 1 cells, capacity 1", "worker 1: 0"]


class KindTest(unittest.TestCase):
    def test_the_classes_above_each(self):
        self.assertEqual(Verdict.__bases__, (object,))
        self.assertEqual(Trouble.__bases__, (Verdict,))
        self.assertEqual(Crowd.__bases__, (Trouble,))
        self.assertEqual(Stall.__bases__, (Trouble,))
        self.assertEqual(Table.__bases__, (Verdict,))

    def test_each_defines_its_report(self):
        for kind in (Verdict, Trouble, Crowd, Stall, Table):
            self.assertIn("report", vars(kind))

    def test_kinds(self):
        crowd, stall = Crowd(ROOM, [1, 2]), Stall(WAITING, [], [1])
        table = Table(ROOM, [ROOM.start()], [0], [0], [0])
        for kind, made, word in ((Crowd, crowd, "crowd"), (Stall, stall, "stall"),
                                 (Table, table, "table")):
            self.assertEqual(kind.KIND, word)
            self.assertEqual(vars(kind)["KIND"], word)
            self.assertEqual(made.KIND, word)
            self.assertNotIn("KIND", vars(made))

    def test_signatures(self):
        for kind, text in ((Verdict, "(system)"), (Trouble, "(system, schedule)"),
                           (Crowd, "(system, schedule)"), (Stall, "(system, schedule, cycle)"),
                           (Table, "(system, states, ranks, levels, helpers)")):
            self.assertEqual(str(inspect.signature(kind)), text)


class AttributeTest(unittest.TestCase):
    def check(self, kind, names, values):
        """From lists that are changed afterwards, and from tuples."""
        lists = [list(value) for value in values]
        made = kind(ROOM, *lists)
        self.assertEqual(lists, [list(value) for value in values])
        for row in lists:
            row.append(99)
            row[0] = 98
        for verdict in (made, kind(ROOM, *[tuple(value) for value in values])):
            self.assertIs(verdict.system, ROOM)
            self.assertEqual(set(vars(verdict)), {"system", *names})
            for name, value in zip(names, values):
                self.assertEqual(getattr(verdict, name), tuple(value))
                self.assertIs(type(getattr(verdict, name)), tuple)
        return made

    def test_verdict(self):
        self.check(Verdict, [], [])

    def test_trouble(self):
        self.check(Trouble, ["schedule"], [[1, 2, 1]])

    def test_crowd(self):
        made = self.check(Crowd, ["schedule"], [[1, 2]])
        self.assertEqual(made.report(), [*ROOM_FIRST, "   1 1 rest", "   2 2 rest", "crowd: 1 2"])

    def test_stall(self):
        self.check(Stall, ["schedule", "cycle"], [[1, 2, 1], [1, 1, 2, 2]])

    def test_table(self):
        states = list(ROOM.run([1, 1, 2]))
        self.check(Table, ["states", "ranks", "levels", "helpers"],
                   [states, [0, 1, 2, 3], [10 ** 59, 4, 3, 2], [1, 2, 0, 1]])

    def test_an_empty_schedule(self):
        self.assertEqual(Trouble(ROOM, []).schedule, ())
        self.assertEqual(Stall(ROOM, [], [1]).schedule, ())


class FirstTextsTest(unittest.TestCase):
    def test_one_worker_and_one_cell(self):
        self.assertEqual(Verdict(WAITING).report(), WAITING_FIRST)

    def test_six_workers_and_twelve_cells(self):
        numberings = [Numbering.turn(12, by) for by in range(5)] + [TWELVE]
        report = Verdict(System(standard_program(), numberings, 6)).report()
        self.assertEqual(report, ["6 workers, 12 cells, capacity 6",
                                  "worker 1: 0 1 2 3 4 5 6 7 8 9 10 11",
                                  "worker 2: 1 2 3 4 5 6 7 8 9 10 11 0",
                                  "worker 3: 2 3 4 5 6 7 8 9 10 11 0 1",
                                  "worker 4: 3 4 5 6 7 8 9 10 11 0 1 2",
                                  "worker 5: 4 5 6 7 8 9 10 11 0 1 2 3",
                                  "worker 6: 7 0 11 3 9 1 10 2 4 8 6 5"])

    def test_each_capacity(self):
        for capacity in range(1, 7):
            report = Verdict(System(standard_program(), [ONE], capacity)).report()
            self.assertEqual(report, [f"1 workers, 1 cells, capacity {capacity}", "worker 1: 0"])


class TroubleReportTest(unittest.TestCase):
    def test_an_empty_schedule(self):
        self.assertEqual(Trouble(ROOM, []).report(), ROOM_FIRST)
        self.assertEqual(Trouble(WAITING, ()).report(), WAITING_FIRST)

    def test_the_instruction_that_the_step_executes(self):
        schedule = [1, 1, 2, 1, 1, 1, 2, 2, 1, 1, 1, 1, 1]
        self.assertEqual(Trouble(STARS, schedule).report(), [
            *STARS_FIRST, "   1 1 rest", "   2 1 take*", "   3 2 rest", "   4 1 take*",
            "   5 1 take*", "   6 1 room", "   7 2 take*", "   8 2 take*", "   9 1 give*",
            "  10 1 give*", "  11 1 give*", "  12 1 wait none", "  13 1 go 1"])

    def test_instructions_of_three_words(self):
        system = assemble(Program.read("rest; unless full 0; if none 1"), ONE)
        self.assertEqual(Trouble(system, [1, 1]).report()[2:], ["   1 1 rest", "   2 1 unless full 0"])

    def test_numbers_of_all_lengths(self):
        report = Trouble(WAITING, [1] * 100001).report()[2:]
        self.assertEqual(len(report), 100001)
        self.assertEqual(report[0], "   1 1 rest")
        self.assertEqual(report[8:10], ["   9 1 wait full", "  10 1 wait full"])
        self.assertEqual(report[98:100], ["  99 1 wait full", " 100 1 wait full"])
        self.assertEqual(report[998:1000], [" 999 1 wait full", "1000 1 wait full"])
        self.assertEqual(report[9998:10000], ["9999 1 wait full", "10000 1 wait full"])
        self.assertEqual(report[-1], "100001 1 wait full")


class CrowdReportTest(unittest.TestCase):
    def test_the_example_of_the_document(self):
        self.assertEqual(Crowd(ROOM, (1, 2)).report(),
                         [*ROOM_FIRST, "   1 1 rest", "   2 2 rest", "crowd: 1 2"])

    def test_only_the_workers_inside_in_the_last_state(self):
        system = assemble(Program.read("rest; room; on; room"), *[ONE] * 6, capacity=2)
        # Worker 4 has gone out, worker 5 has come in a second time.
        schedule = (6, 4, 4, 5, 5, 5, 2)
        self.assertEqual(Crowd(system, schedule).report()[7:], [
            "   1 6 rest", "   2 4 rest", "   3 4 room", "   4 5 rest", "   5 5 room", "   6 5 on",
            "   7 2 rest", "crowd: 2 5 6"])

    def test_all_six(self):
        system = assemble(Program.read("rest; room"), *[ONE] * 6, capacity=5)
        report = Crowd(system, [6, 5, 4, 3, 2, 1]).report()
        self.assertEqual(report[0], "6 workers, 1 cells, capacity 5")
        self.assertEqual(report[-1], "crowd: 1 2 3 4 5 6")


class StallReportTest(unittest.TestCase):
    def test_a_step_that_changes_nothing(self):
        self.assertEqual(Stall(WAITING, [1], [1]).report(), [
            *WAITING_FIRST, "   1 1 rest", "cycle:", "   2 1 wait full", "stall"])

    def test_an_empty_schedule(self):
        system = assemble(Program.read("rest; on"), ONE, ONE)
        self.assertEqual(Stall(system, [], [2, 2]).report(), [
            *ROOM_FIRST, "cycle:", "   1 2 rest", "   2 2 on", "stall"])

    def test_the_cycle_goes_on_from_the_end_of_the_schedule(self):
        system = assemble(Program.read("rest; on*; go 1"), Numbering([1, 0]), Numbering([0, 1]))
        self.assertEqual(Stall(system, (2, 1, 1, 2), (1, 1, 2, 1, 2, 2)).report(), [
            "2 workers, 2 cells, capacity 1", "worker 1: 1 0", "worker 2: 0 1",
            "   1 2 rest", "   2 1 rest", "   3 1 on*", "   4 2 on*", "cycle:",
            "   5 1 on*", "   6 1 go 1", "   7 2 on*", "   8 1 on*", "   9 2 go 1", "  10 2 on*",
            "stall"])

    def test_more_than_9999_steps_in_all(self):
        report = Stall(WAITING, [1] * 9998, [1] * 4).report()
        self.assertEqual(report[2:4], ["   1 1 rest", "   2 1 wait full"])
        self.assertEqual(report[9999:], ["9998 1 wait full", "cycle:", "9999 1 wait full",
                                         "10000 1 wait full", "10001 1 wait full",
                                         "10002 1 wait full", "stall"])


class TableReportTest(unittest.TestCase):
    def test_one_state(self):
        system = assemble(Program.read("rest"), ONE)
        self.assertEqual(Table(system, (system.start(),), (0,), (0,), (0,)).report(),
                         [*WAITING_FIRST, "1 states, at most 0 steps"])

    def test_the_number_of_states_and_the_greatest_rank(self):
        states = list(STARS.run([1, 1, 2, 1]))
        for ranks, greatest in (([0, 1, 2, 3, 1], 3), ([0, 1, 1, 1, 1], 1), ([0, 1, 7, 12, 9], 12)):
            table = Table(STARS, states, ranks, [90, 80, 70, 60, 50], [2, 2, 2, 2, 2])
            last = f"5 states, at most {greatest} steps"
            self.assertEqual(table.report(), [*STARS_FIRST, last])


class ListTest(unittest.TestCase):
    def test_a_returned_report_is_a_new_list(self):
        start = [WAITING.start()]
        for made in (Verdict(WAITING), Trouble(WAITING, [1, 1]), Crowd(ROOM, [1, 2]),
                     Stall(WAITING, [1], [1]), Table(WAITING, start, [0], [0], [0])):
            report = made.report()
            self.assertIs(type(report), list)
            self.assertEqual([type(text) for text in report], [str] * len(report))
            kept = list(report)
            report[0] = "changed"
            report.append("more")
            self.assertEqual(made.report(), kept)
            made.report().clear()
            self.assertEqual(made.report(), kept)

    def test_asking_for_a_report_changes_nothing(self):
        made = Stall(WAITING, [1], [1, 1])
        made.report()
        self.assertEqual((made.schedule, made.cycle), ((1,), (1, 1)))
        self.assertIs(made.system, WAITING)
        self.assertEqual(WAITING.start(), ((0,), ((0, 0),)))


if __name__ == "__main__":
    unittest.main()
