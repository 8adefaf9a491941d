"""Halls and desks: points 1, 23, 24 and 25 and the interface of ownlabels/hall.py."""

import inspect
import random
import unittest

from ownlabels.errors import (AlreadyInside, BadSize, HallError, Held, NoCell, NotEnough, NotInside,
                              RoomFull)
from ownlabels.hall import Desk, Hall
from ownlabels.numbering import Numbering
from plainly import some_places

LARGE = 10 ** 60 - 1
BAD_CAPACITIES = [0, -1, 7, 8, -6, 12, LARGE, -LARGE]
# Own cell 0 at place 2, own cell 1 at place 0, own cell 2 at place 1.
TURNED = Numbering([2, 0, 1])


def furnished(cells, workers, capacity=1):
    """A hall and its desks, all numberings plain."""
    hall = Hall(cells, capacity)
    return hall, [hall.add_worker(Numbering.plain(cells)) for _ in range(workers)]


def seen_of(hall, desks):
    """All that can be asked without changing anything."""
    answers = [hall.contents, hall.free, hall.occupants, hall.capacity]
    for desk in desks:
        answers += [desk.number, desk.share, desk.enough, desk.behind]
        answers += [desk[k] for k in range(len(hall.contents))]
    return answers


class HallTest(unittest.TestCase):
    """What checks that something is refused and changes nothing."""

    def refuse(self, error, hall, desks, act, **attributes):
        before = seen_of(hall, desks)
        with self.assertRaises(HallError) as caught:
            act()
        self.assertIs(type(caught.exception), error)
        for name, value in attributes.items():
            self.assertEqual(getattr(caught.exception, name), value)
        self.assertEqual(seen_of(hall, desks), before)


class MakingTest(HallTest):
    def test_every_size_and_capacity(self):
        for cells in range(1, 13):
            self.assertEqual(Hall(cells).capacity, 1)
            for capacity in range(1, 7):
                for hall in (Hall(cells, capacity), Hall(cells, capacity=capacity)):
                    self.assertEqual(hall.contents, (0,) * cells)
                    self.assertIs(type(hall.contents), tuple)
                    self.assertEqual((hall.free, hall.capacity), (cells, capacity))
                    self.assertEqual(hall.occupants, ())
                    self.assertIs(type(hall.occupants), tuple)

    def test_bad_sizes(self):
        for cells in (0, -1, 13, 14, -12, LARGE, -LARGE):
            for capacity in ([], [1], [6], [0]):
                with self.assertRaises(BadSize):
                    Hall(cells, *capacity)
        for capacity in BAD_CAPACITIES:
            for cells in (1, 3, 12):
                with self.assertRaises(BadSize):
                    Hall(cells, capacity)
                with self.assertRaises(BadSize):
                    Hall(cells, capacity=capacity)

    def test_properties(self):
        for name in ("contents", "free", "occupants", "capacity"):
            self.assertIs(type(vars(Hall)[name]), property)
        for name in ("share", "enough", "behind"):
            self.assertIs(type(vars(Desk)[name]), property)
        for name in ("contents", "free", "occupants"):
            with self.assertRaises(AttributeError):
                setattr(Hall(3), name, 1)

    def test_signatures(self):
        self.assertEqual(str(inspect.signature(Hall)), "(cells, capacity=1)")
        self.assertEqual(str(inspect.signature(Hall.add_worker)), "(self, numbering)")
        self.assertEqual(str(inspect.signature(Hall.change_capacity)), "(self, capacity)")
        for method in (Desk.take, Desk.give):
            self.assertEqual(str(inspect.signature(method)), "(self, k)")
        for method in (Desk.enter, Desk.leave):
            self.assertEqual(str(inspect.signature(method)), "(self)")


class AddingTest(HallTest):
    def test_numbers_one_by_one(self):
        for cells in (1, 3, 12):
            hall = Hall(cells)
            desks = [hall.add_worker(Numbering.turn(cells, by)) for by in range(6)]
            self.assertEqual([desk.number for desk in desks], [1, 2, 3, 4, 5, 6])
            self.assertEqual([type(desk) for desk in desks], [Desk] * 6)
            self.assertIn("number", vars(desks[0]))
            self.assertEqual([desk.share for desk in desks], [0] * 6)
            self.assertEqual([desk.enough for desk in desks], [False] * 6)
            self.assertEqual([desk.behind for desk in desks], [False] * 6)

    def test_another_number_of_cells_uses_up_no_number(self):
        for cells in range(1, 13):
            hall = Hall(cells)
            desks = []
            for number in range(1, 7):
                for other in range(1, 13):
                    if other != cells:
                        self.refuse(BadSize, hall, desks,
                                    lambda: hall.add_worker(Numbering.plain(other)))
                desks.append(hall.add_worker(Numbering.plain(cells)))
                self.assertEqual(desks[-1].number, number)

    def test_a_seventh_worker(self):
        hall, desks = furnished(3, 6)
        desks[5].take(0)
        for _ in range(2):
            for cells in (3, 2):
                self.refuse(BadSize, hall, desks, lambda: hall.add_worker(Numbering.plain(cells)))

    def test_at_any_time(self):
        hall = Hall(3, 2)
        first = hall.add_worker(TURNED)
        first.take(0)
        first.take(1)
        first.enter()
        second = hall.add_worker(Numbering.plain(3))
        self.assertEqual(second.number, 2)
        self.assertEqual([second[k] for k in range(3)], ["other", "empty", "other"])
        self.assertIs(second.behind, True)
        self.assertEqual(hall.occupants, (1,))
        self.assertEqual(hall.contents, (1, 0, 1))

    def test_halls_are_apart(self):
        one, (first,) = furnished(2, 1)
        other, (second,) = furnished(2, 1)
        first.take(0)
        first.take(1)
        first.enter()
        self.assertEqual((one.contents, other.contents), ((1, 1), (0, 0)))
        self.assertEqual((one.occupants, other.occupants), ((1,), ()))
        self.assertEqual((second.number, second.share, second[0]), (1, 0, "empty"))

    def test_the_numbering_stays_as_it_was(self):
        numbering = Numbering([2, 0, 1])
        hall = Hall(3)
        hall.add_worker(numbering).take(0)
        self.assertEqual(numbering.places, (2, 0, 1))
        # The same numbering may serve two workers.
        self.assertEqual(hall.add_worker(numbering)[0], "other")


class CellTest(HallTest):
    def test_the_example_of_the_document(self):
        hall = Hall(3)
        desk = hall.add_worker(TURNED)
        desk.take(0)
        desk.take(2)
        self.assertEqual(hall.contents, (0, 1, 1))

    def test_reading(self):
        hall = Hall(3)
        first = hall.add_worker(TURNED)
        second = hall.add_worker(Numbering([1, 2, 0]))
        first.take(0)
        second.take(0)
        self.assertEqual(hall.contents, (0, 2, 1))
        self.assertEqual([first[k] for k in range(3)], ["mine", "empty", "other"])
        self.assertEqual([second[k] for k in range(3)], ["mine", "other", "empty"])

    def test_each_way_to_take_and_to_give(self):
        ways = [(lambda desk, k: desk.take(k), lambda desk, k: desk.give(k)),
                (lambda desk, k: desk.__setitem__(k, True),
                 lambda desk, k: desk.__setitem__(k, False))]
        chance = random.Random(61)
        for take, give in ways:
            for cells in range(1, 13):
                places = some_places(chance, cells)
                hall = Hall(cells)
                desk = hall.add_worker(Numbering(places))
                for k in range(cells):
                    for _ in range(2):
                        self.assertIsNone(take(desk, k))
                        only = tuple(1 if place == places[k] else 0 for place in range(cells))
                        self.assertEqual(hall.contents, only)
                        self.assertEqual(hall.free, cells - 1)
                        self.assertEqual((desk.share, desk[k]), (1, "mine"))
                    for _ in range(2):
                        self.assertIsNone(give(desk, k))
                        self.assertEqual(hall.contents, (0,) * cells)
                        self.assertEqual(hall.free, cells)
                        self.assertEqual((desk.share, desk[k]), (0, "empty"))

    def test_setting_by_its_sign(self):
        hall, (desk, other) = furnished(3, 2)
        desk[1] = True
        self.assertEqual(hall.contents, (0, 1, 0))
        desk[1] = True
        other[2] = True
        self.assertEqual(hall.contents, (0, 1, 2))
        desk[1] = False
        desk[0] = False
        self.assertEqual(hall.contents, (0, 0, 2))

    def test_held_by_another_one(self):
        hall, desks = furnished(4, 6)
        desks[1].take(0)
        desks[4].take(3)
        for desk in desks:
            for k, holder in ((0, 2), (3, 5)):
                if desk.number != holder:
                    self.refuse(Held, hall, desks, lambda: desk.take(k), holder=holder)
                    self.refuse(Held, hall, desks, lambda: desk.give(k), holder=holder)
                    self.refuse(Held, hall, desks, lambda: desk.__setitem__(k, True), holder=holder)
                    self.refuse(Held, hall, desks, lambda: desk.__setitem__(k, False), holder=holder)
                    self.assertEqual(desk[k], "other")
        self.assertEqual(hall.contents, (2, 0, 0, 5))

    def test_no_cell(self):
        for cells in (1, 3, 12):
            hall, desks = furnished(cells, 2)
            full, (other, taker) = furnished(cells, 2)
            for k in range(cells):
                other.take(k)
            for k in (-1, -2, -cells, -cells - 1, cells, cells + 1, 12, 13, LARGE, -LARGE):
                if 0 <= k < cells:
                    continue
                for room, desk, all_desks in ((hall, desks[0], desks), (full, taker, [other, taker])):
                    self.refuse(NoCell, room, all_desks, lambda: desk[k], cell=k)
                    self.refuse(NoCell, room, all_desks, lambda: desk.take(k), cell=k)
                    self.refuse(NoCell, room, all_desks, lambda: desk.give(k), cell=k)
                    self.refuse(NoCell, room, all_desks, lambda: desk.__setitem__(k, True), cell=k)
                    self.refuse(NoCell, room, all_desks, lambda: desk.__setitem__(k, False), cell=k)

    def test_iterating_raises_type_error(self):
        hall, (desk, _) = furnished(3, 2)
        desk.take(1)
        for act in (iter, list, tuple, sorted, set, lambda desk: [cell for cell in desk],
                    lambda desk: dict(enumerate(desk)), lambda desk: (lambda *cells: cells)(*desk)):
            with self.assertRaises(TypeError):
                act(desk)
        with self.assertRaises(TypeError):
            for _ in desk:
                self.fail("iterated")
        self.assertEqual(hall.contents, (0, 1, 0))

    def test_contents_are_those_of_the_time_when_they_were_asked(self):
        hall, (desk,) = furnished(3, 1)
        before = hall.contents
        desk.take(0)
        self.assertEqual(before, (0, 0, 0))
        self.assertEqual(hall.contents, (1, 0, 0))


class ShareTest(HallTest):
    def test_share_free_and_behind_after_each_deed(self):
        hall, (first, second, third) = furnished(5, 3)
        steps = [
            (lambda: None, 5, (0, 0, 0), (False, False, False)),
            (lambda: second.take(4), 4, (0, 1, 0), (True, False, True)),
            (lambda: first.take(0), 3, (1, 1, 0), (False, False, True)),
            (lambda: first.take(1), 2, (2, 1, 0), (False, True, True)),
            (lambda: third.take(2), 1, (2, 1, 1), (False, True, True)),
            (lambda: third.take(3), 0, (2, 1, 2), (False, True, False)),
            (lambda: first.give(0), 1, (1, 1, 2), (True, True, False)),
            (lambda: third.give(3), 2, (1, 1, 1), (False, False, False)),
            (lambda: second.give(4), 3, (1, 0, 1), (False, True, False)),
        ]
        for act, free, shares, behind in steps:
            act()
            self.assertEqual(hall.free, free)
            self.assertEqual((first.share, second.share, third.share), shares)
            self.assertEqual((first.behind, second.behind, third.behind), behind)
            for desk in (first, second, third):
                self.assertIs(type(desk.share), int)
                self.assertIs(type(desk.behind), bool)
                self.assertIs(type(desk.enough), bool)

    def test_a_worker_alone_is_never_behind(self):
        _, (desk,) = furnished(3, 1)
        self.assertIs(desk.behind, False)
        desk.take(1)
        self.assertIs(desk.behind, False)

    def test_free_cells_are_no_worker(self):
        hall, (first, second) = furnished(12, 2)
        first.take(0)
        second.take(1)
        self.assertEqual((first.behind, second.behind, hall.free), (False, False, 10))

    def test_enough_for_every_share_and_capacity(self):
        for cells in range(1, 13):
            for capacity in range(1, 7):
                _, (desk, other) = furnished(cells, 2, capacity)
                for share in range(cells + 1):
                    self.assertEqual(desk.share, share)
                    self.assertIs(desk.enough, share * (capacity + 1) >= cells + 1)
                    self.assertIs(other.enough, False)
                    if share < cells:
                        desk.take(share)

    def test_enough_whoever_is_inside_and_with_the_capacity_of_the_time(self):
        hall, (first, second) = furnished(4, 2, 2)
        for k in (0, 1):
            first.take(k)
            second.take(k + 2)
        first.enter()
        self.assertEqual((first.enough, second.enough), (True, True))
        hall.capacity = 1
        self.assertEqual((first.enough, second.enough), (False, False))
        hall.change_capacity(3)
        self.assertEqual((first.enough, second.enough), (True, True))


class RoomTest(HallTest):
    def ready(self, workers, capacity):
        """A hall of 12 cells in which each worker holds two cells, enough from capacity 6 on."""
        hall, desks = furnished(12, workers, capacity)
        for at, desk in enumerate(desks):
            desk.take(2 * at)
            desk.take(2 * at + 1)
        return hall, desks

    def test_entering_and_leaving(self):
        hall, (desk, other) = furnished(3, 2)
        desk.take(0)
        desk.take(1)
        for _ in range(2):
            self.assertIsNone(desk.enter())
            self.assertEqual(hall.occupants, (1,))
            self.assertIs(type(hall.occupants), tuple)
            self.assertEqual((hall.contents, desk.share), ((1, 1, 0), 2))
            self.assertIsNone(desk.leave())
            self.assertEqual(hall.occupants, ())
            self.assertEqual((hall.contents, desk.share), ((1, 1, 0), 2))

    def test_occupants_ascend(self):
        hall, desks = self.ready(6, 6)
        for number, occupants in ((5, (5,)), (2, (2, 5)), (6, (2, 5, 6)), (1, (1, 2, 5, 6))):
            desks[number - 1].enter()
            self.assertEqual(hall.occupants, occupants)
        desks[1].leave()
        self.assertEqual(hall.occupants, (1, 5, 6))
        desks[2].enter()
        self.assertEqual(hall.occupants, (1, 3, 5, 6))

    def test_all_six(self):
        hall, desks = self.ready(6, 6)
        for desk in desks:
            desk.enter()
        self.assertEqual(hall.occupants, (1, 2, 3, 4, 5, 6))

    def test_not_enough(self):
        for cells, capacity, needed in ((3, 1, 2), (4, 1, 3), (4, 2, 2), (12, 6, 2), (1, 1, 1), (1, 6, 1)):
            hall, desks = furnished(cells, 2, capacity)
            for k in range(needed):
                self.refuse(NotEnough, hall, desks, desks[0].enter)
                desks[0].take(k)
            desks[0].enter()
            self.assertEqual(hall.occupants, (1,))

    def test_room_full(self):
        for capacity in range(1, 6):
            hall, desks = furnished(12, capacity + 1, capacity)
            # Only one worker at a time has enough, so those inside give their cells back.
            for desk in desks[:capacity]:
                self.take_all(desk)
                desk.enter()
                for k in range(12):
                    desk.give(k)
            self.take_all(desks[capacity])
            self.refuse(RoomFull, hall, desks, desks[capacity].enter)
            desks[0].leave()
            desks[capacity].enter()
            self.assertEqual(hall.occupants, tuple(range(2, capacity + 2)))

    def take_all(self, desk):
        for k in range(12):
            desk.take(k)

    def test_already_inside_goes_first(self):
        hall, desks = furnished(3, 2)
        desks[0].take(0)
        desks[0].take(1)
        desks[0].enter()
        # It has enough and the room is full.
        self.refuse(AlreadyInside, hall, desks, desks[0].enter)
        desks[0].give(0)
        # It has no longer enough and the room is full.
        self.refuse(AlreadyInside, hall, desks, desks[0].enter)
        hall.capacity = 2
        self.refuse(AlreadyInside, hall, desks, desks[0].enter)
        self.assertEqual(hall.occupants, (1,))

    def test_not_enough_goes_before_room_full(self):
        hall, desks = furnished(3, 2)
        desks[0].take(0)
        desks[0].take(1)
        desks[0].enter()
        self.refuse(NotEnough, hall, desks, desks[1].enter)
        desks[1].take(2)
        self.refuse(NotEnough, hall, desks, desks[1].enter)
        desks[0].give(0)
        desks[1].take(0)
        self.refuse(RoomFull, hall, desks, desks[1].enter)

    def test_not_inside(self):
        hall, desks = furnished(3, 3, 2)
        self.refuse(NotInside, hall, desks, desks[0].leave)
        desks[0].take(0)
        desks[0].take(1)
        self.refuse(NotInside, hall, desks, desks[0].leave)
        desks[0].enter()
        self.refuse(NotInside, hall, desks, desks[1].leave)
        desks[0].leave()
        self.refuse(NotInside, hall, desks, desks[0].leave)

    def test_inside_a_worker_may_take_and_give_and_stays(self):
        hall, (desk, other) = furnished(3, 2)
        desk.take(0)
        desk.take(1)
        desk.enter()
        desk.take(2)
        self.assertEqual((hall.contents, hall.occupants), ((1, 1, 1), (1,)))
        for k in range(3):
            desk.give(k)
        self.assertIs(desk.enough, False)
        self.assertEqual((hall.contents, hall.occupants), ((0, 0, 0), (1,)))
        desk.leave()
        self.assertEqual(hall.occupants, ())
        self.refuse(NotEnough, hall, [desk, other], desk.enter)


class CapacityTest(HallTest):
    def ways(self, hall):
        def assign(capacity):
            hall.capacity = capacity
        return (assign, hall.change_capacity)

    def test_assigning(self):
        for way in (0, 1):
            hall = Hall(3, 2)
            for capacity in (1, 6, 3, 3, 2, 5, 4):
                self.assertIsNone(self.ways(hall)[way](capacity))
                self.assertEqual(hall.capacity, capacity)

    def test_bad_sizes(self):
        hall, desks = furnished(3, 2, 2)
        for change in self.ways(hall):
            for capacity in BAD_CAPACITIES:
                self.refuse(BadSize, hall, desks, lambda: change(capacity))

    def test_below_the_number_of_workers_inside(self):
        for many in range(1, 7):
            hall, desks = furnished(12, 6, 6)
            for at, desk in enumerate(desks):
                desk.take(2 * at)
                desk.take(2 * at + 1)
            for desk in desks[:many]:
                desk.enter()
            for change in self.ways(hall):
                for capacity in range(1, many):
                    self.refuse(RoomFull, hall, desks, lambda: change(capacity))
                # What is no capacity at all is refused as such, with workers inside, too.
                for capacity in BAD_CAPACITIES:
                    self.refuse(BadSize, hall, desks, lambda: change(capacity))
                for capacity in range(6, many - 1, -1):
                    change(capacity)
                    self.assertEqual(hall.capacity, capacity)
                change(6)

    def test_after_leaving(self):
        hall, desks = furnished(12, 2, 6)
        for desk in desks:
            desk.take(2 * desk.number)
            desk.take(2 * desk.number + 1)
            desk.enter()
        self.refuse(RoomFull, hall, desks, lambda: hall.change_capacity(1))
        desks[0].leave()
        hall.change_capacity(1)
        self.assertEqual((hall.capacity, hall.occupants), (1, (2,)))

    def test_the_capacity_at_the_time_of_entering_counts(self):
        hall, desks = furnished(4, 2)
        for k in (0, 1):
            desks[0].take(k)
            desks[1].take(k + 2)
        self.refuse(NotEnough, hall, desks, desks[0].enter)
        hall.capacity = 2
        desks[0].enter()
        desks[1].enter()
        self.assertEqual(hall.occupants, (1, 2))
        desks[1].leave()
        hall.capacity = 1
        self.refuse(NotEnough, hall, desks, desks[1].enter)
        self.assertEqual(hall.occupants, (1,))


if __name__ == "__main__":
    unittest.main()
