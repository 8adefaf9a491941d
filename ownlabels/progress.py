"""The measure of the standard program and its helper: why somebody enters in the end."""

from ownlabels.errors import NotStandard
from ownlabels.program import standard_program
from ownlabels.sight import is_behind

# Lines of the standard program.
_RESTING = 0
_TAKING = 1
_ASKING = 2
_GIVING = 4
_JOINING = 6
_LEAVING = 8
_ACTIVE = (1, 2, 3)
_MOVING = (1, 2, 3, 6)
# What a worker at each line adds to the distance while all cells are empty.
_DISTANCES = (0, 1, 3, 2, 3, 3, 2)


def measure(system, state):
    """Return the measure, a tuple of eight integers, or None if somebody is inside."""
    numbers, _ = _measure_and_helper(system, state)
    return numbers


def helper(system, state):
    """Return the helper, a worker or 0, or None if somebody is inside."""
    _, worker = _measure_and_helper(system, state)
    return worker


def _measure_and_helper(system, state):
    """Return the pair of the measure and the helper; both are None if somebody is inside."""
    # Another program is refused before the state is looked at.
    if system.program.instructions != standard_program().instructions:
        raise NotStandard("not the standard program")
    if system.inside(state) != ():
        return None, None
    leavers = _workers_at(state, (_LEAVING,))
    if leavers:
        return (_total_left(system, state, leavers), 0, 0, 0, 0, 0, 0, 0), leavers[0]
    return _while_nobody_leaves(system, state)


def _while_nobody_leaves(system, state):
    """Return the pair of the measure and the helper while nobody is at the room or leaving."""
    contents, _ = state
    idle = len(_workers_at(state, (_RESTING,)))
    moving = len(_workers_at(state, _MOVING))
    givers = _workers_at(state, (_GIVING,))
    giving = _total_left(system, state, givers)
    if _is_giver_ahead(state, givers):
        return (0, idle, 2, moving, giving, 0, 0, 0), givers[0]
    if contents.count(0) == system.cells:
        return (0, idle, 1, _distance(system, state), 0, 0, 0, 0), 0
    if givers:
        return (0, idle, 0, moving, giving, 0, 0, 0), givers[0]
    joiners = _workers_at(state, (_JOINING,))
    if joiners:
        return (0, idle, 0, moving, 0, len(joiners), 0, 0), joiners[0]
    worker, ahead = _helper_and_ahead(system, state)
    return (0, idle, 0, moving, 0, 0, contents.count(0), ahead), worker


def _workers_at(state, lines):
    """Return the list of the workers at these lines, ascending."""
    return [worker for worker, (line, _) in enumerate(state[1], start=1) if line in lines]


def _left(system, state, worker):
    """Return the number of cells from the worker's pointer to its last own cell."""
    _, pointer = state[1][worker - 1]
    return system.cells - pointer


def _total_left(system, state, workers):
    return sum([_left(system, state, worker) for worker in workers])


def _is_giver_ahead(state, givers):
    """Return whether some giver holds a cell, and no active worker has a larger share than it."""
    contents, _ = state
    most = max([contents.count(worker) for worker in _workers_at(state, _ACTIVE)], default=0)
    shares = [contents.count(worker) for worker in givers]
    return any([share > 0 and share >= most for share in shares])


def _distance(system, state):
    """Return the distance of a state in which all cells are empty."""
    numbers = [_DISTANCES[line] for line, _ in state[1]]
    return sum(numbers) + _total_left(system, state, _workers_at(state, (_GIVING,)))


def _helper_and_ahead(system, state):
    """Return the helper and `ahead` of a state in which only active workers hold cells."""
    contents, _ = state
    active = _workers_at(state, _ACTIVE)
    if contents.count(0) > 0:
        return active[0], _ahead_with_free_cells(system, state, active[0])
    behind = [worker for worker in active if is_behind(contents, worker)]
    if behind:
        return behind[0], _by_line(state, behind[0], _left(system, state, behind[0]) + 2, 2, 1)
    return active[0], _by_line(state, active[0], _left(system, state, active[0]) + 1, 1, system.cells + 2)


def _ahead_with_free_cells(system, state, worker):
    """Return `ahead` of a helper, the least active worker, while some cells are empty."""
    _, pointer = state[1][worker - 1]
    places = system.numberings[worker - 1].places
    empty = [k for k, place in enumerate(places) if state[0][place] == 0]
    to_come = [k for k in empty if k >= pointer]
    if to_come:
        taking = to_come[0] - pointer + 1
    else:
        taking = _left(system, state, worker) + empty[0] + 3
    return _by_line(state, worker, taking, empty[0] + 3, empty[0] + 2)


def _by_line(state, worker, taking, asking, comparing):
    """Return the number for the line of an active worker: line 1, 2 or 3."""
    line, _ = state[1][worker - 1]
    if line == _TAKING:
        return taking
    return asking if line == _ASKING else comparing
