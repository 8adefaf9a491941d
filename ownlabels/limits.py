"""The limits of the numbers that are passed."""

from ownlabels.errors import BadSize

# The room is for as many workers at most as there may be.
MOST_WORKERS = 6


def check_size(what, number, most):
    """Raise BadSize unless the number is one of 1 to most."""
    if not 1 <= number <= most:
        raise BadSize(f"{what}: {number}, not 1 to {most}")
