"""The errors that the package raises."""


class HallError(ValueError):
    """The base class of all errors of the package."""


class BadNumbering(HallError):
    """A numbering or an order lacks a number, or two numberings do not fit together."""


class BadSize(HallError):
    """A number of cells, of workers or the like is outside of its limits."""


class NotEnough(HallError):
    """A worker without enough cells wants to enter the room."""


class RoomFull(HallError):
    """As many workers as the capacity are inside."""


class AlreadyInside(HallError):
    """A worker inside wants to enter the room."""


class NotInside(HallError):
    """A worker that is not inside wants to leave the room."""


class NoObstacle(HallError):
    """A lockstep run is asked for numbers that have no obstacle."""


class NotStandard(HallError):
    """A measure is asked for another program than the standard program."""


class BadInstruction(HallError):
    """A line of a program, a condition or the word of a deed is not known."""

    def __init__(self, instruction):
        super().__init__(f"not understood: {instruction!r}")
        self.instruction = instruction


class BadProgram(HallError):
    """A program is invalid: at a line, or at line -1 by its number of lines."""

    def __init__(self, line):
        super().__init__(f"invalid program, line {line}")
        self.line = line


class NoWorker(HallError):
    """A number is not the number of a worker."""

    def __init__(self, worker):
        super().__init__(f"no worker {worker}")
        self.worker = worker


class NoCell(HallError):
    """A number is not the number of an own cell."""

    def __init__(self, cell):
        super().__init__(f"no own cell {cell}")
        self.cell = cell


class Held(HallError):
    """Another worker holds the cell."""

    def __init__(self, holder):
        super().__init__(f"held by worker {holder}")
        self.holder = holder


class TooMany(HallError):
    """A search comes to more states than it may find."""

    def __init__(self, most):
        super().__init__(f"more than {most} states")
        self.most = most
