"""Obstacles, and rings of workers that step in lockstep."""

from ownlabels.errors import BadSize, NoObstacle
from ownlabels.limits import MOST_WORKERS, check_size
from ownlabels.numbering import Numbering
from ownlabels.system import System
from ownlabels.verdicts import Crowd, Stall

_MOST_COUNTED = 1000


def obstacle(workers, cells, capacity=1):
    """Return the least divisor of cells that is above the capacity and not above workers, or 0."""
    check_size("workers", workers, _MOST_COUNTED)
    check_size("cells", cells, _MOST_COUNTED)
    check_size("capacity", capacity, _MOST_COUNTED)
    sizes = range(capacity + 1, workers + 1)
    return min([size for size in sizes if cells % size == 0], default=0)


def ring(base, size):
    """Return the tuple of the numberings of the ring of this size."""
    cells = len(base)
    if size < 1 or cells % size != 0:
        raise BadSize(f"a ring of size {size} for {cells} cells")
    turns = [Numbering.turn(cells, i * (cells // size)) for i in range(size)]
    return tuple([turn * base for turn in turns])


def lockstep(program, workers, cells, capacity=1, base=None):
    """Return the Crowd or Stall in which the lockstep run of the program ends."""
    check_size("workers", workers, MOST_WORKERS)
    check_size("cells", cells, Numbering.MOST)
    check_size("capacity", capacity, MOST_WORKERS)
    first = Numbering.plain(cells) if base is None else base
    if len(first) != cells:
        raise BadSize(f"a base of {len(first)} cells for {cells} cells")
    size = obstacle(workers, cells, capacity)
    if size == 0:
        raise NoObstacle(f"no obstacle for {workers} workers, {cells} cells, capacity {capacity}")
    numberings = list(ring(first, size)) + [first] * (workers - size)
    return _run_in_beats(System(program, numberings, capacity), size)


def _run_in_beats(system, size):
    """Let workers 1 to size step in beats until the run ends; return its Crowd or Stall."""
    schedule = []
    state = system.start()
    # By the state in which a beat ended, the number of steps up to there.
    ends = {}
    while state not in ends:
        ends[state] = len(schedule)
        for worker in range(1, size + 1):
            state = system.step(state, worker)
            schedule.append(worker)
            if system.is_crowd(state):
                return Crowd(system, schedule)
    met = ends[state]
    return Stall(system, schedule[:met], schedule[met:])
