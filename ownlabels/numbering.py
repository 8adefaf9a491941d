"""Numberings: the place of each own cell of a worker."""

from ownlabels.errors import BadNumbering, NoCell
from ownlabels.limits import check_size

_MOST_LISTED = 6


class Numbering:
    """An order of the cells: own cell k is at place places[k]."""

    MOST = 12

    def __init__(self, places):
        if not 1 <= len(places) <= Numbering.MOST:
            raise BadNumbering(f"{len(places)} cells, not 1 to {Numbering.MOST}")
        if sorted(places) != list(range(len(places))):
            raise BadNumbering("not each place exactly once")
        self.places = tuple(places)

    @classmethod
    def plain(cls, cells):
        """Return the numbering with place k for own cell k."""
        check_size("cells", cells, cls.MOST)
        return cls(list(range(cells)))

    @classmethod
    def turn(cls, cells, by):
        """Return the numbering with place (k + by) mod cells for own cell k."""
        check_size("cells", cells, cls.MOST)
        return cls([(k + by) % cells for k in range(cells)])

    def __call__(self, k):
        # Python would count a negative k from the end.
        if not 0 <= k < len(self.places):
            raise NoCell(k)
        return self.places[k]

    def __mul__(self, other):
        if len(self.places) != len(other.places):
            raise BadNumbering(f"{len(self.places)} cells times {len(other.places)} cells")
        return Numbering([self.places[place] for place in other.places])

    def __invert__(self):
        return Numbering([self.places.index(k) for k in range(len(self.places))])

    def __pow__(self, other):
        return self.power(other)

    def power(self, n):
        """Return the product of n times this numbering, or of -n times its inverse."""
        square = ~self if n < 0 else self
        left = abs(n)
        result = Numbering.plain(len(self.places))
        # By squaring, because an exponent may have 60 digits.
        while left > 0:
            if left % 2 == 1:
                result = result * square
            square = square * square
            left = left // 2
        return result

    def __eq__(self, other):
        if not isinstance(other, Numbering):
            return NotImplemented
        return self.places == other.places

    def __lt__(self, other):
        if not isinstance(other, Numbering):
            return NotImplemented
        return self.places < other.places

    def __len__(self):
        return len(self.places)

    def __iter__(self):
        return iter(self.places)


def every_numbering(cells):
    """Yield all numberings of that many cells in ascending order."""
    check_size("cells", cells, _MOST_LISTED)
    for places in every_order(cells):
        yield Numbering(places)


def every_order(count):
    """Return all orders of 0 to count - 1, ascending."""
    rows = [()]
    for _ in range(count):
        # Longer rows in the order of the shorter ones, and by the new entry, stay ascending.
        rows = [(*row, place) for row in rows for place in range(count) if place not in row]
    return rows
