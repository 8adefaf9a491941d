"""Tables: point 15, and point 10 and 11 with `judge`."""

import itertools
import random
import unittest

from answers import (AnswerTest, after_step, every_line, inside, plain_system, resting, searched,
                     system_of, workers_of)
from ownlabels.errors import TooMany
from ownlabels.numbering import Numbering
from ownlabels.program import Program, standard_program
from ownlabels.search import judge
from ownlabels.system import System, exchange, rename
from plainly import some_instructions, some_places

STANDARD = standard_program()
KEEPS = "rest; take; wait mine; room; on; go 3"


def quiet_steps(system, table):
    """Pairs of the rows (state, level, helper) before and behind a quiet step, with its worker."""
    rows = {row[0]: row for row in zip(table.states, table.levels, table.helpers)}
    for state in table.states:
        for worker in workers_of(system):
            after = after_step(system, state, worker)
            if not inside(system, state) and not inside(system, after):
                yield rows[state], worker, rows[after]


def some_tables(seed, count, workers, cells):
    """Random systems that have tables, each with its table."""
    chance = random.Random(seed)
    while count > 0:
        rows = some_instructions(chance, chance.randint(3, 8))
        if chance.random() < 0.4:
            rows = list(STANDARD.instructions)
            rows[chance.randrange(1, 9)] = chance.choice(every_line(9))
        rows[chance.randrange(1, len(rows))] = "room"
        many, wide = chance.randint(1, workers), chance.randint(1, cells)
        numberings = [Numbering(some_places(chance, wide)) for _ in range(many)]
        system = System(Program(rows), numberings, chance.choice([1, many]))
        try:
            answer = judge(system, 400)
        except TooMany:
            continue
        if answer.KIND == "table":
            count -= 1
            yield system, answer


class TableTest(AnswerTest):
    def table(self, system):
        answer = judge(system)
        self.check_search(answer, system)
        self.assertEqual(answer.KIND, "table")
        return answer

    def test_two_states(self):
        system = plain_system("rest; room", 1, 1)
        table = self.table(system)
        self.assertEqual(table.states, (((0,), ((0, 0),)), ((0,), ((1, 0),))))
        self.assertEqual(table.ranks, (0, 1))
        # No quiet step at all, so that there is nothing to say of the levels.
        self.assertEqual(table.helpers[1], 0)

    def test_the_order_of_the_states(self):
        system = plain_system("rest; room; take", 2, 1, 2)
        table = self.table(system)
        self.assertEqual(table.states[:6], (
            ((0,), ((0, 0), (0, 0))), ((0,), ((1, 0), (0, 0))), ((0,), ((0, 0), (1, 0))),
            ((0,), ((2, 0), (0, 0))), ((0,), ((1, 0), (1, 0))), ((0,), ((0, 0), (2, 0)))))
        self.assertEqual(table.ranks[:6], (0, 1, 1, 2, 2, 2))

    def test_somebody_always_inside_but_at_the_start(self):
        for workers in range(1, 4):
            system = plain_system("rest; " + "; ".join(["room"] * 3), workers, 2, workers)
            self.table(system)

    def test_one_worker_of_the_standard_program(self):
        for cells in range(1, 13):
            for capacity in (1, 3, 6):
                table = self.table(plain_system(STANDARD.text, 1, cells, capacity))
                self.assertEqual(len(table.states), 2 * cells + 3)

    def test_the_standard_program(self):
        for text, places, capacity in (
                (STANDARD.text, [(0,), (0,)], 1), (STANDARD.text, [(1, 0), (1, 0)], 2),
                (STANDARD.text, [(0, 1), (1, 0)], 2), (STANDARD.text, [(0, 1, 2), (2, 1, 0)], 1),
                (STANDARD.text, [(0,)] * 3, 1), (STANDARD.text, [(0,)] * 3, 2)):
            self.table(system_of(text, *places, capacity=capacity))

    def test_where_a_quiet_step_keeps_the_level(self):
        """Two or three who wait at line 2 for the cell that another one holds."""
        for workers, helpers in ((2, {1, 2}), (3, {1, 2, 3})):
            system = plain_system(KEEPS, workers, 1)
            table = self.table(system)
            kept = [(state, worker) for (state, level, _), worker, (_, following, _)
                    in quiet_steps(system, table) if level == following]
            self.assertNotEqual(kept, [])
            self.assertEqual(set(table.helpers) - {0}, helpers)

    def test_the_holder_helps(self):
        """Only the holder is not resting and cannot step for ever, so it is the helper."""
        system = plain_system(KEEPS, 2, 1)
        table = self.table(system)
        seen = 0
        for state, worker in zip(table.states, table.helpers):
            lines = [line for line, _ in state[1]]
            if sorted(lines) in ([2, 2], [2, 4], [2, 5]) and state[0] != (0,):
                self.assertEqual(worker, state[0][0])
                seen += 1
        self.assertEqual(seen, 6)

    def test_helper_0_where_each_quiet_step_leads_lower(self):
        system = plain_system("rest; on; on; on; room", 2, 1, 2)
        table = self.table(system)
        for (_, level, worker), _, (_, following, _) in quiet_steps(system, table):
            self.assertTrue(worker == 0 or worker in (1, 2))
            self.assertLess(following, level + (worker != 0))

    def test_random_tables(self):
        kept = alone = 0
        for system, table in some_tables(81, 150, 3, 3):
            self.check_search(table, system)
            levels = [(before[1], after[1]) for before, _, after in quiet_steps(system, table)]
            kept += any(before == after for before, after in levels)
            alone += system.workers == 1
        self.assertGreater(kept, 3)
        self.assertLess(alone, 100)

    def test_levels_within_60_digits(self):
        system = System(STANDARD, [Numbering.plain(5), Numbering.turn(5, 2)], 2)
        table = judge(system, 10000)
        self.check_table(table, system)
        self.assertGreater(len(table.states), 4000)
        self.assertTrue(all(0 <= level < 10 ** 60 for level in table.levels))

    def test_resting_workers_are_no_helpers(self):
        for system, table in some_tables(82, 40, 3, 2):
            for state, worker in zip(table.states, table.helpers):
                self.assertNotIn(worker, resting(system, state))

    def test_a_new_table_each_time(self):
        system = plain_system(KEEPS, 2, 1)
        first, second = self.table(system), self.table(system)
        self.assertIsNot(first, second)
        self.assertEqual(first.report(), second.report())


class ExchangedTest(AnswerTest):
    """Numbers of workers and places do not matter (points 10 and 11)."""

    def check(self, system, order, numbering):
        found = judge(system, 10000)
        other = system.exchanged(order).renamed(numbering)
        answer = judge(other, 10000)
        self.check_answer(answer, other)
        self.assertEqual(answer.KIND, found.KIND)
        if found.KIND == "crowd":
            self.assertEqual(len(answer.schedule), len(found.schedule))
        if found.KIND == "table":
            ranks = {rename(exchange(state, order), numbering): rank
                     for state, rank in zip(found.states, found.ranks)}
            self.assertEqual(dict(zip(answer.states, answer.ranks)), ranks)
        return found.KIND

    def check_orders(self, system, chance, forms):
        orders = list(itertools.permutations(workers_of(system)))
        for order in orders if len(orders) <= 6 else chance.sample(orders, 4):
            numbering = Numbering(some_places(chance, system.cells))
            kind = self.check(system, order, numbering)
            if forms and kind == "table":
                other = system.exchanged(order).renamed(numbering)
                ours = [system.form(state) for state in judge(system).states]
                theirs = [other.form(state) for state in judge(other).states]
                self.assertEqual(sorted(ours), sorted(theirs))
        return kind

    def test_random_systems(self):
        chance = random.Random(83)
        kinds = []
        while len(kinds) < 120:
            rows = some_instructions(chance, chance.randint(3, 7))
            rows[chance.randrange(1, len(rows))] = "room"
            cells, workers = chance.randint(1, 3), chance.randint(2, 4)
            numberings = [Numbering(some_places(chance, cells)) for _ in range(workers)]
            system = System(Program(rows), numberings, chance.choice([1, 1, 2, workers]))
            if len(searched(system)[0]) <= 300:
                kinds.append(self.check_orders(system, chance, False))
        self.assertEqual(set(kinds), {"crowd", "stall", "table"})

    def test_crowds(self):
        chance = random.Random(84)
        for text, workers, cells in (("rest; room", 5, 2), ("rest; take; if other 2; room", 3, 3),
                                     ("rest; take; give; unless other 2; room", 3, 4)):
            system = System(Program.read(text), [Numbering(some_places(chance, cells))
                                                 for _ in range(workers)])
            self.check_orders(system, chance, False)
        system = system_of("rest; take; if other 2; room", (0, 2, 1), (1, 0, 2), (1, 0, 2))
        for order in itertools.permutations((1, 2, 3)):
            self.assertEqual(self.check(system, order, Numbering([2, 0, 1])), "crowd")

    def test_stalls(self):
        chance = random.Random(85)
        for places in ([(0, 1), (1, 0)], [(0, 1), (0, 1), (1, 0)], [(2, 0, 1, 3), (1, 3, 0, 2)]):
            kind = self.check_orders(system_of(STANDARD.text, *places), chance, False)
            self.assertEqual(kind, "stall")

    def test_tables(self):
        chance = random.Random(86)
        for places, capacity in (([(0, 1), (0, 1)], 2), ([(0, 1), (1, 0)], 2),
                                 ([(0,), (0,), (0,)], 1), ([(0, 1, 2), (2, 0, 1)], 2)):
            system = system_of(STANDARD.text, *places, capacity=capacity)
            self.assertEqual(self.check_orders(system, chance, True), "table")
        for system, _ in some_tables(87, 30, 4, 3):
            self.assertEqual(self.check_orders(system, chance, True), "table")


if __name__ == "__main__":
    unittest.main()
