"""Halls: cells that change when workers act on them directly, each at a desk of its own."""

from ownlabels.errors import AlreadyInside, BadInstruction, BadSize, Held, NoCell, NotEnough, NotInside, RoomFull
from ownlabels.limits import MOST_WORKERS, check_size
from ownlabels.numbering import Numbering
from ownlabels.sight import as_seen, has_enough, is_behind


class Hall:
    """Cells, workers that are added one by one, and a room with a capacity."""

    def __init__(self, cells, capacity=1):
        check_size("cells", cells, Numbering.MOST)
        check_size("capacity", capacity, MOST_WORKERS)
        self._holders = [0] * cells
        self._capacity = capacity
        self._desks = []

    def add_worker(self, numbering):
        """Add a worker and return its desk."""
        if len(numbering) != len(self._holders):
            raise BadSize(f"{len(numbering)} cells in a hall of {len(self._holders)} cells")
        number = len(self._desks) + 1
        check_size("workers", number, MOST_WORKERS)
        desk = Desk(self, number, numbering)
        self._desks.append(desk)
        return desk

    @property
    def contents(self):
        """The contents of the cells by place."""
        return tuple(self._holders)

    @property
    def free(self):
        """The number of empty cells."""
        return self._holders.count(0)

    @property
    def occupants(self):
        """The workers inside, ascending."""
        return tuple([desk.number for desk in self._desks if desk.entered])

    @property
    def capacity(self):
        """The number of workers that the room is for."""
        return self._capacity

    @capacity.setter
    def capacity(self, value):
        check_size("capacity", value, MOST_WORKERS)
        many = len(self.occupants)
        if value < many:
            raise RoomFull(f"capacity {value}, but {many} workers are inside")
        self._capacity = value

    def change_capacity(self, capacity):
        """Assign the capacity."""
        self.capacity = capacity

    def put(self, place, worker):
        """Let the worker hold the cell at this place, or nobody for 0; for desks, which check."""
        self._holders[place] = worker


class Desk:
    """Where a worker of a hall acts, by its own cell numbers; made by add_worker."""

    def __init__(self, hall, number, numbering):
        self.number = number
        self.entered = False
        self._hall = hall
        self._places = numbering.places

    def __getitem__(self, at):
        return as_seen(self._hall.contents[self._own_place(at)], self.number)

    def __setitem__(self, at, worth):
        if worth:
            self.take(at)
        else:
            self.give(at)

    # Without it Python would iterate by reading cell 0, 1 and so on.
    def __iter__(self):
        raise TypeError("a desk is not iterated over")

    def take(self, k):
        """Make own cell k the worker's."""
        self._change(k, self.number)

    def give(self, k):
        """Make own cell k empty."""
        self._change(k, 0)

    @property
    def share(self):
        """The number of cells that the worker holds."""
        return self._hall.contents.count(self.number)

    @property
    def enough(self):
        """Whether the worker holds enough cells to enter."""
        return has_enough(self._hall.contents, self.number, self._hall.capacity)

    @property
    def behind(self):
        """Whether some other worker holds more cells."""
        return is_behind(self._hall.contents, self.number)

    def enter(self):
        """Enter the room."""
        if self.entered:
            raise AlreadyInside(f"worker {self.number} is inside already")
        if not self.enough:
            raise NotEnough(f"worker {self.number} holds {self.share} cells only")
        if len(self._hall.occupants) >= self._hall.capacity:
            raise RoomFull(f"as many workers as the capacity {self._hall.capacity} are inside")
        self.entered = True

    def leave(self):
        """Leave the room."""
        if not self.entered:
            raise NotInside(f"worker {self.number} is not inside")
        self.entered = False

    def _own_place(self, k):
        # Python would count a negative k from the end.
        if not 0 <= k < len(self._places):
            raise NoCell(k)
        return self._places[k]

    def _change(self, k, worker):
        """Let own cell k be held by the worker, or by nobody for 0, unless another one holds it."""
        place = self._own_place(k)
        holder = self._hall.contents[place]
        if holder not in (0, self.number):
            raise Held(holder)
        self._hall.put(place, worker)


def visit(desk, *deeds):
    """Enter the room, do the deeds, leave, and return the list of the results."""
    results = []
    desk.enter()
    try:
        for deed in deeds:
            results.append(_result(desk, deed))
    finally:
        # Whatever the error is, errors of Python's own included, the worker is outside again.
        desk.entered = False
    return results


def _result(desk, deed):
    """Do the deed at the desk and return its result."""
    word, k = deed
    if word == "see":
        return desk[k]
    if word == "take":
        desk.take(k)
    elif word == "give":
        desk.give(k)
    else:
        raise BadInstruction(word)
    return None
