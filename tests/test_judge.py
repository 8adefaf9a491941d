"""The search of a system: point 13, the crowds of point 12, and `most`."""

import copy
import inspect
import random
import unittest

from answers import (LARGE, AnswerTest, after_step, inside, least_crowded_schedule, plain_system,
                     searched, states_of, system_of, workers_of)
from ownlabels.errors import BadSize, TooMany
from ownlabels.numbering import Numbering
from ownlabels.program import Program, standard_program
from ownlabels.search import judge
from ownlabels.system import System
from plainly import some_instructions, some_places

STANDARD = standard_program()
BAD_MOST = [0, -1, -2, -4000, -10000, 10001, 10002, 20000, LARGE, -LARGE, 10 ** 60 - 1, 1 - 10 ** 60]
# Each worker goes through the lines and through the cells alone: 21 * 3 or 16 * 4 spots.
ROUND = "; ".join(["rest", "on", *["room"] * 19])
LONG_ROUND = "; ".join(["rest", "on", *["room"] * 14])


def some_systems(seed, count, workers, cells, lines):
    """Random systems in which somebody may come in, with capacities below the workers' number."""
    chance = random.Random(seed)
    for _ in range(count):
        rows = some_instructions(chance, chance.randint(3, lines))
        rows[chance.randrange(1, len(rows))] = "room"
        many, wide = chance.randint(2, workers), chance.randint(1, cells)
        numberings = [Numbering(some_places(chance, wide)) for _ in range(many)]
        yield System(Program(rows), numberings, chance.randint(1, many - 1))


class CrowdTest(AnswerTest):
    def test_the_example_of_the_document(self):
        crowd = judge(plain_system("rest; room", 2, 1))
        self.assertEqual((crowd.KIND, crowd.schedule), ("crowd", (1, 2)))

    def test_by_hand(self):
        for text, workers, capacity, schedule in (
                ("rest; on; room", 2, 1, (1, 1, 2, 2)),
                ("rest; room; on", 3, 1, (1, 2)),
                ("rest; room; on", 3, 2, (1, 2, 3)),
                ("rest; room", 6, 5, (1, 2, 3, 4, 5, 6)),
                # Only who finds the cell taken comes in: worker 1 takes it, and two others come.
                ("rest; if other 3; take; wait other; room", 3, 1, (1, 1, 1, 2, 2, 2, 3, 3, 3))):
            with self.subTest(text=text, workers=workers, capacity=capacity):
                answer = judge(plain_system(text, workers, 1, capacity))
                self.assertEqual((answer.KIND, answer.schedule), ("crowd", schedule))

    def test_nobody_else_comes_in(self):
        # Whoever holds the cell keeps it and comes in again and again, the other one waits for it.
        system = plain_system("rest; take; wait mine; room; on; go 3", 2, 1)
        self.assertIsNone(searched(system)[1])
        self.assertEqual(judge(system).KIND, "table")

    def test_not_by_the_numbers_of_the_workers_alone(self):
        for text, places, schedule in (
                ("rest; take; if other 2; room", [(0, 2, 1), (1, 0, 2), (1, 0, 2)], (1, 2, 2, 2, 1, 1)),
                ("rest; rest; take; unless empty 5; room; unless mine 4", [(0, 2, 1), (1, 0, 2)],
                 (1, 1, 2, 2, 2, 2, 1, 1))):
            system = system_of(text, *places)
            self.assertEqual(least_crowded_schedule(system, len(schedule)), schedule)
            answer = judge(system)
            self.assertEqual((answer.KIND, answer.schedule), ("crowd", schedule))
            self.check_search(answer, system)

    def test_the_least_among_the_shortest(self):
        found = []
        for system in some_systems(61, 400, 3, 2, 6):
            schedules, crowded = searched(system)
            if crowded is not None and len(crowded) <= 7:
                answer = judge(system)
                self.check_crowd(answer, system)
                self.assertEqual(answer.schedule, least_crowded_schedule(system, 7))
                found.append((answer.schedule, len(schedules)))
        self.assertGreater(len(found), 50)
        # Also where much was found before.
        self.assertTrue(any(many > 50 for _, many in found))

    def test_against_a_search_in_the_test(self):
        kinds = []
        for system in some_systems(62, 250, 3, 3, 7):
            schedules, crowded = searched(system)
            if crowded is None:
                continue
            answer = judge(system, 10000)
            self.assertEqual((answer.KIND, answer.schedule), ("crowd", crowded))
            self.check_crowd(answer, system)
            kinds.append(len(states_of(system, crowded)) < len(schedules))
        self.assertGreater(kinds.count(True), 30)

    def test_nobody_found_it_if_it_was_a_crowd(self):
        # Everybody inside is no crowd if the room is for so many.
        for workers in range(1, 7):
            for capacity in range(1, 7):
                answer = judge(plain_system("rest; room", workers, 1, capacity))
                self.assertEqual(answer.KIND, "crowd" if workers > capacity else "table")


class MostTest(AnswerTest):
    def check_limit(self, system, seed):
        """Every limit up to the number of found states, in a random order, on one system."""
        schedules, crowded = searched(system)
        count = len(schedules)
        free = judge(system, 10000)
        limits = list(range(1, count + 3)) + [count, count - 1, count + 1, 10000]
        random.Random(seed).shuffle(limits)
        for most in limits:
            if most < 1:
                continue
            if most < count:
                with self.assertRaises(TooMany) as caught:
                    judge(system, most)
                self.assertEqual(caught.exception.most, most)
            else:
                answer = judge(system, most)
                self.assertEqual(answer.KIND, free.KIND)
                self.assertEqual(answer.report(), free.report())
        return free.KIND, crowded

    def test_crowds(self):
        for text, workers, cells, capacity in (
                ("rest; room", 2, 1, 1), ("rest; room; on", 3, 2, 2), ("rest; on; room", 2, 2, 1),
                ("rest; take; unless mine 4; go 0; room; give", 3, 1, 1)):
            with self.subTest(text=text):
                kind, _ = self.check_limit(plain_system(text, workers, cells, capacity), 1)
                self.assertEqual(kind, "crowd")

    def test_a_crowd_at_the_limit_is_a_crowd(self):
        system = plain_system("rest; on; room", 2, 1)
        schedules, crowded = searched(system)
        answer = judge(system, len(schedules))
        self.assertEqual((answer.KIND, answer.schedule), ("crowd", crowded))
        # The two lines before the room, for both: all but one of the pairs are found before.
        self.assertEqual(len(schedules), 8)
        with self.assertRaises(TooMany):
            judge(system, 7)

    def test_stalls(self):
        for text, workers, cells, capacity in (
                ("rest", 1, 1, 1), ("rest; rest", 2, 1, 1), ("rest; take*; wait none", 2, 2, 1),
                ("rest; on; go 1", 3, 1, 2)):
            with self.subTest(text=text):
                kind, _ = self.check_limit(plain_system(text, workers, cells, capacity), 2)
                self.assertEqual(kind, "stall")

    def test_tables(self):
        for text, workers, cells, capacity in (
                ("rest; room", 1, 1, 1), ("rest; room", 3, 1, 3), (STANDARD.text, 1, 4, 1),
                (STANDARD.text, 2, 1, 1)):
            with self.subTest(text=text):
                kind, _ = self.check_limit(plain_system(text, workers, cells, capacity), 3)
                self.assertEqual(kind, "table")

    def test_random_systems(self):
        kinds = set()
        for seed, system in enumerate(some_systems(63, 60, 3, 2, 5)):
            if len(searched(system)[0]) <= 60:
                kinds.add(self.check_limit(system, seed)[0])
        self.assertIn("crowd", kinds)

    def test_one_state(self):
        system = plain_system("rest", 1, 1)
        for answer in (judge(system, 1), judge(system, most=1), judge(system)):
            self.check_stall(answer, system)
        with self.assertRaises(TooMany) as caught:
            judge(plain_system("rest; on", 1, 1), most=1)
        self.assertEqual(caught.exception.most, 1)

    def test_4000_where_none_is_passed(self):
        self.assertEqual(str(inspect.signature(judge)), "(system, most=4000)")
        answer = judge(plain_system(ROUND, 2, 3, 2))
        self.assertEqual(len(answer.states), 63 ** 2)
        larger = plain_system(LONG_ROUND, 2, 4, 2)
        with self.assertRaises(TooMany) as caught:
            judge(larger)
        self.assertEqual(caught.exception.most, 4000)
        self.assertEqual(len(judge(larger, 64 ** 2).states), 64 ** 2)
        with self.assertRaises(TooMany) as caught:
            judge(larger, most=64 ** 2 - 1)
        self.assertEqual(caught.exception.most, 64 ** 2 - 1)
        with self.assertRaises(TooMany) as caught:
            judge(larger)
        self.assertEqual(caught.exception.most, 4000)

    def test_10000(self):
        system = System(STANDARD, [Numbering.plain(5), Numbering([3, 1, 4, 0, 2])])
        for answer in (judge(system, 10000), judge(system, most=10000)):
            self.assertGreater(len(answer.states), 4000)
            self.check_table(answer, system)
        larger = System(STANDARD, [Numbering.turn(3, by) for by in (0, 0, 1)], 3)
        for call in (lambda: judge(larger, 10000), lambda: judge(larger, most=10000)):
            with self.assertRaises(TooMany) as caught:
                call()
            self.assertEqual(caught.exception.most, 10000)

    def test_bad_size(self):
        systems = [plain_system("rest", 1, 1), plain_system("rest; room", 2, 1),
                   System(STANDARD, [Numbering.plain(2)] * 6)]
        for most in BAD_MOST:
            for system in systems:
                with self.subTest(most=most), self.assertRaises(BadSize):
                    judge(system, most)
                with self.subTest(most=most), self.assertRaises(BadSize):
                    judge(system, most=most)


class PassedTest(AnswerTest):
    def test_the_system_as_it_was(self):
        chance = random.Random(64)
        for _ in range(40):
            places = [some_places(chance, 2) for _ in range(2)]
            rows = some_instructions(chance, 5)
            system = System(Program(rows), [Numbering(row) for row in places], chance.randint(1, 2))
            before = copy.deepcopy(system)
            first = judge(system, 10000).report()
            self.assertEqual(judge(system, 10000).report(), first)
            self.assertEqual(system.program.instructions, tuple(rows))
            self.assertEqual([numbering.places for numbering in system.numberings], places)
            self.assertEqual((system.workers, system.cells, system.capacity),
                             (before.workers, before.cells, before.capacity))
            self.assertEqual(system.start(), before.start())

    def test_systems_in_turn(self):
        first, second = plain_system("rest; room", 2, 1), plain_system(STANDARD.text, 2, 1)
        table = judge(second)
        self.assertEqual(judge(first).schedule, (1, 2))
        again = judge(second)
        self.assertEqual((again.states, again.ranks), (table.states, table.ranks))
        self.assertIs(again.system, second)

    def test_each_found_state_but_the_start_follows_another(self):
        system = plain_system(STANDARD.text, 2, 2, 2)
        answer = judge(system)
        ranks = dict(zip(answer.states, answer.ranks))
        self.assertEqual(answer.states[0], system.start())
        self.assertEqual(answer.ranks[0], 0)
        self.assertEqual(list(answer.ranks), sorted(answer.ranks))
        for state in answer.states:
            self.assertLessEqual(len(inside(system, state)), 2)
            for worker in workers_of(system):
                self.assertLessEqual(ranks[after_step(system, state, worker)], ranks[state] + 1)


if __name__ == "__main__":
    unittest.main()
