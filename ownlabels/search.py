"""The search of a system for crowds and stalls, and of all numberings for the first trouble."""

from math import factorial

from ownlabels.errors import TooMany
from ownlabels.groups import group_numbers
from ownlabels.limits import MOST_WORKERS, check_size
from ownlabels.numbering import Numbering, every_numbering
from ownlabels.system import System
from ownlabels.verdicts import Crowd, Stall, Table, Trouble
from ownlabels.ways import round_trip, traced

_MOST_STATES = 10000
_MOST_COMBINATIONS = 36


class Search:
    """The states of a system as they are found, numbered from 0 in this order."""

    def __init__(self, system, most):
        self.system = system
        self.states = [system.start()]
        self.ranks = [0]
        # By number, the numbers of the states after a step of worker 1, of worker 2 and so on.
        self.following = []
        self._most = most
        self._numbers = {system.start(): 0}
        # By number, the number of the state before and the worker; nothing is before the start.
        self._ways = [None]

    def find_all(self):
        """Find all states and return None, or return the Crowd at which the search ends."""
        # No loop over the states, because they become more in it.
        while len(self.following) < len(self.states):
            number = len(self.following)
            row = []
            for worker in range(1, self.system.workers + 1):
                state = self.system.step(self.states[number], worker)
                if state not in self._numbers:
                    if self.system.is_crowd(state):
                        return Crowd(self.system, self.schedule_to(number) + [worker])
                    self._find(state, number, worker)
                row.append(self._numbers[state])
            self.following.append(row)
        return None

    def schedule_to(self, number):
        """Return the schedule of the state of this number, a list."""
        return traced(self._ways, 0, number)

    def _find(self, state, before, worker):
        """Find the state, which a step of the worker from the state of the number before leads to."""
        if len(self.states) >= self._most:
            raise TooMany(self._most)
        self._numbers[state] = len(self.states)
        self.states.append(state)
        self.ranks.append(self.ranks[before] + 1)
        self._ways.append((before, worker))


def judge(system, most=4000):
    """Search the system, and return a Crowd, a Stall or a Table."""
    check_size("most", most, _MOST_STATES)
    search = Search(system, most)
    crowd = search.find_all()
    return _stall_or_table(search) if crowd is None else crowd


def first_trouble(program, workers, cells, capacity=1, most=4000):
    """Search the systems with all numberings, and return the first Crowd or Stall, or None."""
    check_size("workers", workers, MOST_WORKERS)
    check_size("cells", cells, Numbering.MOST)
    check_size("capacity", capacity, MOST_WORKERS)
    check_size("most", most, _MOST_STATES)
    check_size("combinations", _count_combinations(workers, cells), _MOST_COMBINATIONS)
    for numberings in _every_combination(workers, cells):
        verdict = judge(System(program, numberings, capacity), most)
        if isinstance(verdict, Trouble):
            return verdict
    return None


def _stall_or_table(search):
    """Return the answer of a search that has found all states."""
    steps = _quiet_steps(search)
    # No quiet step leads to a group with a higher number, so these numbers are levels.
    levels = group_numbers([list(row.values()) for row in steps])
    groups = _inner_steps(steps, levels)
    helpers = [_group_helper(search, inner) for inner in groups]
    for inner, chosen in zip(groups, helpers):
        if chosen is None:
            return _stall(search, inner)
    return Table(search.system, search.states, search.ranks, levels, [helpers[level] for level in levels])


def _quiet_steps(search):
    """Return for each state its quiet steps: by worker, the number of the state after the step."""
    quiet = [search.system.inside(state) == () for state in search.states]
    rows = []
    for number, row in enumerate(search.following):
        steps = list(enumerate(row, start=1))
        rows.append({worker: after for worker, after in steps if quiet[number] and quiet[after]})
    return rows


def _inner_steps(steps, levels):
    """Return for each level, by number of its states, the quiet steps to states of the same level."""
    groups = [{} for _ in range(max(levels) + 1)]
    for number, level in enumerate(levels):
        row = list(steps[number].items())
        groups[level][number] = {worker: after for worker, after in row if levels[after] == level}
    return groups


def _group_helper(search, inner):
    """Return the helper of the states of a group: 0 if no step stays in it, None if there is a stall."""
    stepping = _stepping(inner)
    if not stepping:
        return 0
    # Whoever does not step within the group has the same line in all of its states.
    resting = search.system.resting(search.states[min(inner)])
    workers = range(1, search.system.workers + 1)
    leading_out = [worker for worker in workers if worker not in stepping and worker not in resting]
    return min(leading_out, default=None)


def _stepping(inner):
    """Return the list of the workers that step within the group, ascending."""
    return sorted({worker for row in inner.values() for worker in row})


def _stall(search, inner):
    """Return a Stall in this group, in which everybody else is resting."""
    begin = min(inner)
    stepping = _stepping(inner)
    resting = search.system.resting(search.states[begin])
    # A cycle is not empty, also where all workers that step are resting.
    needed = [worker for worker in stepping if worker not in resting] or stepping[:1]
    return Stall(search.system, search.schedule_to(begin), round_trip(inner, begin, needed))


def _count_combinations(workers, cells):
    count = 1
    # Worker 1 has the plain numbering only.
    for _ in range(workers - 1):
        count = count * factorial(cells)
    return count


def _every_combination(workers, cells):
    """Return the lists of numberings of all workers, ascending."""
    rows = [[Numbering.plain(cells)]]
    for _ in range(workers - 1):
        # Longer rows in the order of the shorter ones, and by the new numbering, stay ascending.
        rows = [[*row, numbering] for row in rows for numbering in every_numbering(cells)]
    return rows
