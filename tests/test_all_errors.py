"""Which call raises which error, over all modules, and what each error is."""

import unittest

from answers import LARGE, plain_system
from ownlabels import errors
from ownlabels.hall import Hall, visit
from ownlabels.numbering import Numbering, every_numbering
from ownlabels.program import Program, standard_program
from ownlabels.progress import helper, measure
from ownlabels.rings import lockstep, obstacle, ring
from ownlabels.search import first_trouble, judge
from ownlabels.system import System, assemble, exchange, rename

STANDARD = standard_program()
PLAIN = Numbering.plain(2)
PAIR = System(STANDARD, [PLAIN, PLAIN])
OTHER = plain_system("rest; room", 2, 2)
START = PAIR.start()
KINDS = [kind for kind in vars(errors).values() if isinstance(kind, type) and kind is not errors.HallError]


def desks():
    """A hall of two cells for one, and two desks in it; the first worker is inside with all cells."""
    hall = Hall(2)
    first, second = hall.add_worker(PLAIN), hall.add_worker(PLAIN)
    first.take(0)
    first.take(1)
    first.enter()
    return hall, first, second


def full_hall():
    hall = Hall(2, 2)
    for _ in range(6):
        hall.add_worker(PLAIN)
    hall.add_worker(PLAIN)


def assigned(capacity):
    hall, first, _ = desks()
    hall.capacity = capacity


def room_full():
    hall = Hall(4, 1)
    first, second = hall.add_worker(Numbering.plain(4)), hall.add_worker(Numbering.plain(4))
    for k in (0, 1, 2):
        first.take(k)
    first.enter()
    for k in (0, 1, 2):
        first.give(k)
        second.take(k)
    second.enter()


def below():
    hall = Hall(2, 2)
    for k in range(2):
        desk = hall.add_worker(PLAIN)
        desk.take(k)
        desk.enter()
    hall.capacity = 1


def put(desk, k):
    desk[k] = True


CALLS = {
    "BadNumbering": [
        lambda: Numbering([]), lambda: Numbering([0, 0]), lambda: Numbering(list(range(13))),
        lambda: PLAIN * Numbering.plain(3), lambda: PAIR.exchanged([1]), lambda: PAIR.exchanged([1, 1]),
        lambda: PAIR.renamed(Numbering.plain(3)), lambda: exchange(START, [0, 1]),
        lambda: rename(START, Numbering.plain(1))],
    "BadSize": [
        lambda: Numbering.plain(0), lambda: Numbering.plain(13), lambda: Numbering.turn(13, 1),
        lambda: list(every_numbering(7)), lambda: list(every_numbering(0)), lambda: System(STANDARD, []),
        lambda: System(STANDARD, [PLAIN] * 7), lambda: System(STANDARD, [PLAIN, Numbering.plain(3)]),
        lambda: System(STANDARD, [PLAIN], 7), lambda: assemble(STANDARD), lambda: Hall(0), lambda: Hall(13),
        lambda: Hall(2, 0), lambda: Hall(2).add_worker(Numbering.plain(3)), full_hall, lambda: assigned(0),
        lambda: assigned(7), lambda: desks()[0].change_capacity(LARGE),
        lambda: judge(PAIR, 0), lambda: judge(PAIR, 10001), lambda: judge(PAIR, most=-1),
        lambda: first_trouble(STANDARD, 0, 1), lambda: first_trouble(STANDARD, 1, 13),
        lambda: first_trouble(STANDARD, 1, 1, 7), lambda: first_trouble(STANDARD, 1, 1, 1, 0),
        lambda: first_trouble(STANDARD, 3, 4), lambda: obstacle(0, 1), lambda: obstacle(1, 1001),
        lambda: obstacle(1, 1, 0), lambda: ring(PLAIN, 0), lambda: ring(PLAIN, 3), lambda: ring(PLAIN, -1),
        lambda: lockstep(STANDARD, 7, 2), lambda: lockstep(STANDARD, 2, 13), lambda: lockstep(STANDARD, 2, 2, 7),
        lambda: lockstep(STANDARD, 2, 3, 1, PLAIN)],
    "NotEnough": [lambda: desks()[2].enter(), lambda: visit(desks()[2])],
    "RoomFull": [room_full, below],
    "AlreadyInside": [lambda: desks()[1].enter(), lambda: visit(desks()[1], ("see", 0))],
    "NotInside": [lambda: desks()[2].leave()],
    "NoObstacle": [lambda: lockstep(STANDARD, 2, 3), lambda: lockstep(STANDARD, 1, 1),
                   lambda: lockstep(STANDARD, 6, 12, 6, Numbering.plain(12))],
    "NotStandard": [lambda: measure(OTHER, OTHER.start()), lambda: helper(OTHER, OTHER.start()),
                    lambda: measure(OTHER, ((0, 0), ((1, 0), (0, 0))))],
    "BadInstruction": [lambda: PAIR.sees(START, 1, "nobody"), lambda: PAIR.sees(START, 2, "")],
    "BadProgram": [lambda: Program([]), lambda: Program(["rest"] * 25), lambda: Program(["take"]),
                   lambda: Program.read(""), lambda: Program.read("rest; jump")],
    "NoWorker": [lambda: PAIR.step(START, 0), lambda: PAIR.step(START, 3), lambda: PAIR.sees(START, 3, "none"),
                 lambda: list(PAIR.run([1, 7]))],
    "NoCell": [lambda: PLAIN(2), lambda: PLAIN(-1), lambda: desks()[1][2], lambda: desks()[1].take(-1),
               lambda: desks()[2].give(2), lambda: put(desks()[2], LARGE)],
    "Held": [lambda: desks()[2].take(0), lambda: desks()[2].give(1), lambda: put(desks()[2], 0)],
    "TooMany": [lambda: judge(PAIR, 1), lambda: judge(PAIR, most=100), lambda: first_trouble(STANDARD, 2, 2, 1, 9),
                lambda: first_trouble(STANDARD, 6, 1)],
}


class EveryErrorTest(unittest.TestCase):
    def test_every_class_is_raised_by_some_call(self):
        self.assertEqual(sorted(kind.__name__ for kind in KINDS), sorted(CALLS))

    def test_each_call(self):
        for name, calls in CALLS.items():
            for number, call in enumerate(calls):
                with self.subTest(name=name, number=number):
                    with self.assertRaises(ValueError) as caught:
                        call()
                    error = caught.exception
                    self.assertIsInstance(error, errors.HallError)
                    self.assertEqual([kind.__name__ for kind in KINDS if isinstance(error, kind)], [name])
                    self.assertIs(type(error), getattr(errors, name))

    def test_attributes_of_the_search(self):
        for call, most in ((lambda: judge(PAIR, 1), 1), (lambda: judge(PAIR, most=100), 100),
                           (lambda: first_trouble(STANDARD, 2, 2, 1, 9), 9),
                           (lambda: first_trouble(STANDARD, 6, 1), 4000)):
            with self.assertRaises(errors.TooMany) as caught:
                call()
            self.assertEqual(caught.exception.most, most)
            self.assertIs(type(caught.exception.most), int)


if __name__ == "__main__":
    unittest.main()
