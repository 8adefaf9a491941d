"""Systems: workers that run one program over cells that they share, and the states of a system."""

from ownlabels.errors import BadInstruction, BadNumbering, BadSize, NoWorker
from ownlabels.limits import MOST_WORKERS, check_size
from ownlabels.numbering import every_order
from ownlabels.program import CONDITIONS
from ownlabels.sight import as_seen, has_enough, is_behind


class System:
    """A program, workers with one numbering each, and a room with a capacity.

    A state is a pair: the contents of the cells by place, and the spots of the workers, each
    the pair of a line and a pointer.
    """

    def __init__(self, program, numberings, capacity=1):
        check_size("workers", len(numberings), MOST_WORKERS)
        check_size("capacity", capacity, MOST_WORKERS)
        cells = len(numberings[0])
        if any([len(numbering) != cells for numbering in numberings]):
            raise BadSize("numberings of different numbers of cells")
        self.program = program
        self.numberings = tuple(numberings)
        self.workers = len(self.numberings)
        self.cells = cells
        self.capacity = capacity

    def start(self):
        """Return the start state."""
        return ((0,) * self.cells, ((0, 0),) * self.workers)

    def step(self, state, worker):
        """Return the state after a step of the worker."""
        self._check_worker(worker)
        contents, spots = state
        line, pointer = spots[worker - 1]
        words = self.executes(state, worker).split(" ")
        deed = words[0].rstrip("*")
        if deed in ("take", "give", "on"):
            contents = self._contents_after(state, worker, deed)
            pointer = (pointer + 1) % self.cells
        # With a star the worker stays until the pointer is 0 again.
        if pointer == 0 or not words[0].endswith("*"):
            line = self._next_line(state, worker, words)
        return (contents, _replaced(spots, worker - 1, (line, pointer)))

    def sees(self, state, worker, condition):
        """Return whether the condition holds for the worker."""
        self._check_worker(worker)
        if condition not in CONDITIONS:
            raise BadInstruction(condition)
        return self._holds(state, worker, condition)

    def inside(self, state):
        """Return the tuple of the workers that are inside, ascending."""
        return self._all_at(state, "room")

    def resting(self, state):
        """Return the tuple of the workers that are resting, ascending."""
        return self._all_at(state, "rest")

    def is_crowd(self, state):
        """Return whether more workers are inside than the room is for."""
        return len(self.inside(state)) > self.capacity

    def run(self, schedule):
        """Yield the start state and then the state after each step of the schedule."""
        state = self.start()
        yield state
        # A tuple, so that later changes to a list have no effect.
        for worker in tuple(schedule):
            state = self.step(state, worker)
            yield state

    def exchanged(self, order):
        """Return the system in which worker i has become worker order[i - 1]."""
        _check_order(order, self.workers)
        return System(self.program, _arranged(self.numberings, order), self.capacity)

    def renamed(self, numbering):
        """Return the system in which place p has become place numbering(p)."""
        return System(self.program, [numbering * old for old in self.numberings], self.capacity)

    def form(self, state):
        """Return the least of the triples of all orders, the same whatever the numbers are."""
        return min([self._triple(state, order) for order in _every_worker_order(self.workers)])

    def executes(self, state, worker):
        """Return the instruction of the worker's line."""
        line, _ = state[1][worker - 1]
        return self.program.instructions[line]

    def _triple(self, state, order):
        """Return the triple of this order: both exchanged, then renamed so that worker 1 is plain."""
        system = self.exchanged(order)
        back = ~system.numberings[0]
        places = [numbering.places for numbering in system.renamed(back).numberings]
        contents, spots = rename(exchange(state, order), back)
        return (tuple(places), contents, spots)

    def _check_worker(self, worker):
        if not 1 <= worker <= self.workers:
            raise NoWorker(worker)

    def _place(self, state, worker):
        """Return the place of the cell at the worker's pointer."""
        _, pointer = state[1][worker - 1]
        return self.numberings[worker - 1].places[pointer]

    def _all_at(self, state, instruction):
        """Return the tuple of the workers whose line has this instruction."""
        workers = range(1, self.workers + 1)
        return tuple([worker for worker in workers if self.executes(state, worker) == instruction])

    def _contents_after(self, state, worker, deed):
        """Return the contents after the deed of the worker at the cell at its pointer."""
        contents, _ = state
        place = self._place(state, worker)
        if deed == "take" and contents[place] == 0:
            return _replaced(contents, place, worker)
        if deed == "give" and contents[place] == worker:
            return _replaced(contents, place, 0)
        return contents

    def _next_line(self, state, worker, words):
        """Return the line that follows when the worker leaves the instruction of these words."""
        line, _ = state[1][worker - 1]
        following = (line + 1) % len(self.program)
        if words[0] == "go":
            return int(words[1])
        if words[0] == "wait":
            return following if self._holds(state, worker, words[1]) else line
        if words[0] in ("if", "unless"):
            jumps = self._holds(state, worker, words[1]) == (words[0] == "if")
            return int(words[2]) if jumps else following
        return following

    def _holds(self, state, worker, condition):
        """Return whether the condition, one of the eight, holds for the worker."""
        contents, spots = state
        if condition == "first":
            return spots[worker - 1][1] == 0
        if condition == "none":
            return contents.count(0) == self.cells
        if condition == "full":
            return contents.count(0) == 0
        if condition == "enough":
            return has_enough(contents, worker, self.capacity)
        if condition == "behind":
            return is_behind(contents, worker)
        return as_seen(contents[self._place(state, worker)], worker) == condition


def assemble(program, *numberings, capacity=1):
    """Return the system of the program and these numberings."""
    return System(program, numberings, capacity)


def exchange(state, order):
    """Return the state in which worker i has become worker order[i - 1]."""
    contents, spots = state
    _check_order(order, len(spots))
    # By number of the holder: what is empty stays empty.
    after = (0, *order)
    return (tuple([after[holder] for holder in contents]), _arranged(spots, order))


def rename(state, numbering):
    """Return the state in which place p has become place numbering(p)."""
    contents, spots = state
    if len(numbering) != len(contents):
        raise BadNumbering(f"{len(numbering)} cells for a state of {len(contents)} cells")
    back = ~numbering
    return (tuple([contents[place] for place in back.places]), spots)


def _check_order(order, workers):
    if sorted(order) != list(range(1, workers + 1)):
        raise BadNumbering(f"not each of 1 to {workers} exactly once")


def _every_worker_order(workers):
    """Return all orders of the workers."""
    return [[number + 1 for number in order] for order in every_order(workers)]


def _arranged(entries, order):
    """Return the entries of all workers after they have been exchanged."""
    return tuple([entries[order.index(worker)] for worker in range(1, len(entries) + 1)])


def _replaced(entries, at, entry):
    """Return the tuple of the entries with another one at this index."""
    return entries[:at] + (entry,) + entries[at + 1:]
