"""Visits: point 26."""

import inspect
import itertools
import unittest

from ownlabels.errors import (AlreadyInside, BadInstruction, HallError, Held, NoCell, NotEnough,
                              RoomFull)
from ownlabels.hall import Hall, visit
from ownlabels.numbering import Numbering

LARGE = 10 ** 60 - 1
# Own cell 0 at place 3, own cell 1 at place 0, own cell 2 at place 4, and so on.
NUMBERING = Numbering([3, 0, 4, 1, 2])


class VisitTest(unittest.TestCase):
    """Worker 1 holds own cells 0, 1 and 2 of five, worker 2 holds own cell 4 of worker 1."""

    def setUp(self):
        self.hall = Hall(5)
        self.desk = self.hall.add_worker(NUMBERING)
        self.other = self.hall.add_worker(Numbering.plain(5))
        for k in (0, 1, 2):
            self.desk.take(k)
        self.other.take(2)
        self.assertEqual(self.hall.contents, (1, 0, 2, 1, 1))

    def raised(self, error, *deeds):
        with self.assertRaises(HallError) as caught:
            visit(self.desk, *deeds)
        self.assertIs(type(caught.exception), error)
        return caught.exception


class ResultTest(VisitTest):
    def test_the_example_of_the_document(self):
        hall = Hall(3)
        desk = hall.add_worker(Numbering([2, 0, 1]))
        desk.take(0)
        desk.take(2)
        results = visit(desk, ("see", 0), ("give", 0), ("see", 0))
        self.assertEqual(results, ["mine", None, "empty"])
        self.assertEqual((hall.contents, hall.occupants), ((0, 1, 0), ()))

    def test_no_deed(self):
        self.assertEqual(visit(self.desk), [])
        self.assertEqual(self.hall.contents, (1, 0, 2, 1, 1))
        self.assertEqual(self.hall.occupants, ())

    def test_each_deed(self):
        results = visit(self.desk, ("see", 0), ("see", 3), ("see", 4), ("take", 3), ("see", 3),
                        ("give", 0), ("see", 0), ("give", 0), ("take", 3), ("take", 1))
        self.assertEqual(results, ["mine", "empty", "other", None, "mine",
                                   None, "empty", None, None, None])
        self.assertEqual(self.hall.contents, (1, 1, 2, 0, 1))
        self.assertEqual(self.hall.occupants, ())

    def test_is_a_list_and_new_each_time(self):
        first = visit(self.desk, ("see", 4))
        self.assertIs(type(first), list)
        first.append("changed")
        second = visit(self.desk, ("see", 4))
        self.assertEqual(second, ["other"])
        self.assertIsNot(first, second)
        self.assertIsNot(visit(self.desk), visit(self.desk))

    def test_giving_everything_back(self):
        self.assertEqual(visit(self.desk, *[("give", k) for k in (0, 1, 2, 3)]), [None] * 4)
        self.assertEqual(self.hall.contents, (0, 0, 2, 0, 0))
        self.assertEqual(self.hall.occupants, ())
        self.raised(NotEnough, ("take", 0))

    def test_one_after_another(self):
        self.assertEqual(visit(self.desk, ("give", 1)), [None])
        self.desk.take(3)
        self.assertEqual(visit(self.desk, ("see", 1), ("see", 3)), ["empty", "mine"])

    def test_while_another_one_is_inside(self):
        self.hall.capacity = 2
        self.other.take(1)
        self.other.enter()
        self.assertEqual(visit(self.desk, ("see", 3)), ["other"])
        self.assertEqual(self.hall.occupants, (2,))

    def test_signature(self):
        self.assertEqual(str(inspect.signature(visit)), "(desk, *deeds)")


class ErrorTest(VisitTest):
    GOOD = [("give", 0), ("take", 3), ("see", 1)]
    AFTER = {0: (1, 0, 2, 1, 1), 1: (1, 0, 2, 0, 1), 2: (1, 1, 2, 0, 1), 3: (1, 1, 2, 0, 1)}

    def check(self, bad, error, **attributes):
        """The bad deed as the first, a middle and the last one."""
        for at in range(4):
            with self.subTest(bad=bad, at=at):
                self.setUp()
                deeds = [*self.GOOD[:at], bad, *self.GOOD[at:]]
                raised = self.raised(error, *deeds)
                for name, value in attributes.items():
                    self.assertEqual(getattr(raised, name), value)
                self.assertEqual(self.hall.contents, self.AFTER[at])
                self.assertEqual(self.hall.occupants, ())
                # The worker is outside, so that it can come again when it has enough.
                self.desk.take(0)
                self.assertEqual(visit(self.desk, ("see", 1)), ["mine"])

    def test_no_cell(self):
        for word, k in itertools.product(["take", "give", "see"], [-1, -5, 5, 6, LARGE, -LARGE]):
            self.check((word, k), NoCell, cell=k)

    def test_held(self):
        for word in ("take", "give"):
            self.check((word, 4), Held, holder=2)

    def test_bad_words_before_the_cell_number_is_looked_at(self):
        words = ["", " ", "look", "enter", "leave", "read", "on", "rest", "take*", "give*", "Take",
                 "SEE", "see ", " see", "sees", "se", "takes", "tak", "gives", "giv", "take 0", "0"]
        for word, k in itertools.product(words, [0, 3, 4, 5, -1, LARGE]):
            self.check((word, k), BadInstruction, instruction=word)

    def test_the_first_of_several_errors(self):
        self.raised(NoCell, ("give", 0), ("see", 7), ("look", 0), ("take", 4))
        self.assertEqual(self.hall.contents, (1, 0, 2, 0, 1))

    def test_other_errors(self):
        class Strange(BaseException):
            pass

        class Number(int):
            def __le__(self, other):
                raise Strange
            __lt__ = __ge__ = __gt__ = __eq__ = __index__ = __le__

        for bad, error in ((("see", "0"), TypeError), (("see", None), TypeError),
                           (("take", Number(1)), Strange)):
            self.setUp()
            with self.assertRaises(error):
                visit(self.desk, ("give", 0), bad, ("give", 1))
            self.assertEqual(self.hall.contents, (1, 0, 2, 0, 1))
            self.assertEqual(self.hall.occupants, ())

    def test_the_others_stay_inside(self):
        self.hall.capacity = 2
        self.other.take(1)
        self.other.enter()
        self.raised(NoCell, ("see", 9))
        self.assertEqual(self.hall.occupants, (2,))


class RefusedTest(VisitTest):
    DEEDS = [("give", 0), ("take", 3), ("look", 0), ("see", 9)]

    def test_not_enough(self):
        self.desk.give(2)
        self.raised(NotEnough, *self.DEEDS)
        self.assertEqual((self.hall.contents, self.hall.occupants), ((1, 0, 2, 1, 0), ()))
        self.raised(NotEnough)

    def test_room_full(self):
        self.desk.give(1)
        self.desk.give(2)
        for k in (0, 1, 4):
            self.other.take(k)
        self.other.enter()
        for k in (0, 4):
            self.other.give(k)
        self.desk.take(1)
        self.desk.take(2)
        self.raised(RoomFull, *self.DEEDS)
        self.assertEqual((self.hall.contents, self.hall.occupants), ((1, 2, 2, 1, 1), (2,)))

    def test_already_inside(self):
        self.desk.enter()
        self.raised(AlreadyInside, *self.DEEDS)
        self.assertEqual((self.hall.contents, self.hall.occupants), ((1, 0, 2, 1, 1), (1,)))
        self.raised(AlreadyInside)
        self.assertEqual(self.hall.occupants, (1,))
        self.desk.leave()
        self.assertEqual(visit(self.desk, ("see", 0)), ["mine"])


if __name__ == "__main__":
    unittest.main()
