"""The answers of a search or of a lockstep run, and their reports."""


class Verdict:
    """What all answers have: the system that was looked at."""

    def __init__(self, system):
        self.system = system

    def report(self):
        """Return the texts about the system."""
        system = self.system
        sizes = f"{system.workers} workers, {system.cells} cells, capacity {system.capacity}"
        texts = [_joined(numbering.places) for numbering in system.numberings]
        return [sizes] + [f"worker {worker}: {text}" for worker, text in enumerate(texts, start=1)]


class Trouble(Verdict):
    """An answer with a schedule that leads to the trouble from the start state."""

    def __init__(self, system, schedule):
        super().__init__(system)
        self.schedule = tuple(schedule)

    def report(self):
        """Return the texts about the system and the steps of the schedule."""
        return super().report() + _step_texts(self.system, self.schedule)


class Crowd(Trouble):
    """The schedule leads to a state with more workers inside than the capacity."""

    KIND = "crowd"

    def report(self):
        """Return the whole report."""
        states = list(self.system.run(self.schedule))
        inside = self.system.inside(states[-1])
        return super().report() + [f"crowd: {_joined(inside)}"]


class Stall(Trouble):
    """The schedule leads to a state, the cycle from there back to it, and nobody enters."""

    KIND = "stall"

    def __init__(self, system, schedule, cycle):
        super().__init__(system, schedule)
        self.cycle = tuple(cycle)

    def report(self):
        """Return the whole report."""
        # From the start on, so that the cycle's steps continue the numbers of the schedule's.
        texts = _step_texts(self.system, self.schedule + self.cycle)
        return super().report() + ["cycle:"] + texts[len(self.schedule):] + ["stall"]


class Table(Verdict):
    """All states of a system that has neither a crowd nor a stall, and what shows that."""

    KIND = "table"

    def __init__(self, system, states, ranks, levels, helpers):
        super().__init__(system)
        self.states = tuple(states)
        self.ranks = tuple(ranks)
        self.levels = tuple(levels)
        self.helpers = tuple(helpers)

    def report(self):
        """Return the whole report."""
        return super().report() + [f"{len(self.states)} states, at most {max(self.ranks)} steps"]


def _joined(numbers):
    return " ".join([str(number) for number in numbers])


def _step_texts(system, schedule):
    """Return one text for each step of the schedule."""
    texts = []
    # The states are one more than the steps; the last one is left out.
    states = list(system.run(schedule))
    for number, (state, worker) in enumerate(zip(states, schedule), start=1):
        texts.append(f"{number:>4} {worker} {system.executes(state, worker)}")
    return texts
