"""Schedules that lead from one state of a search to another one; the states are given by numbers."""


def traced(ways, begin, end):
    """Return the schedule from begin to end, a list.

    For each number on the way but begin, `ways` has the number before it and the worker that steps.
    """
    schedule = []
    number = end
    while number != begin:
        number, worker = ways[number]
        schedule.append(worker)
    return schedule[::-1]


def round_trip(steps, begin, workers):
    """Return a schedule from begin back to it, a list in which each of these workers occurs.

    By number and then by worker, `steps` has the numbers that follow. Each leads to each other one.
    """
    schedule = []
    here = begin
    for worker in workers:
        if worker not in schedule:
            goals = {number: True for number in steps if worker in steps[number]}
            way, reached = _shortest_way(steps, here, goals)
            schedule = schedule + way + [worker]
            here = steps[reached][worker]
    way, _ = _shortest_way(steps, here, {begin: True})
    return schedule + way


def _shortest_way(steps, begin, goals):
    """Return a shortest schedule from begin to one of the goals, and this goal."""
    ways = {}
    found = [begin]
    at = 0
    while found[at] not in goals:
        here = found[at]
        for worker, after in steps[here].items():
            if after != begin and after not in ways:
                ways[after] = (here, worker)
                found.append(after)
        at += 1
    return traced(ways, begin, found[at]), found[at]
