"""What a worker sees of the contents of the cells, in a system and in a hall alike."""


def as_seen(holder, worker):
    """Return how the worker sees a cell with this holder, 0 for an empty cell."""
    if holder == 0:
        return "empty"
    return "mine" if holder == worker else "other"


def has_enough(contents, worker, capacity):
    """Return whether the worker holds so many cells that not capacity + 1 workers can hold as many."""
    return (capacity + 1) * contents.count(worker) > len(contents)


def is_behind(contents, worker):
    """Return whether some other worker holds more cells than the worker."""
    share = contents.count(worker)
    return any([contents.count(holder) > share for holder in contents if holder != 0])
