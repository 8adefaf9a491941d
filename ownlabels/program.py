"""Programs: lists of instructions, their text and their listing."""

from ownlabels.errors import BadInstruction, BadProgram

CONDITIONS = ("first", "empty", "mine", "other", "none", "full", "enough", "behind")
_STANDARD = "rest; take*; if enough 7; unless behind 1; give*; wait none; go 1; room; give*"
_SINGLE_WORDS = ("rest", "room", "take", "give", "on", "take*", "give*", "on*")


class Program:
    """A list of instructions that all workers run."""

    LONGEST = 24

    def __init__(self, instructions):
        count = len(instructions)
        if not 1 <= count <= Program.LONGEST:
            raise BadProgram(-1)
        for line, instruction in enumerate(instructions):
            if not _fits(line, instruction, count):
                raise BadProgram(line) from BadInstruction(instruction)
        self.instructions = tuple(instructions)

    @classmethod
    def read(cls, text):
        """Return the program whose text is passed."""
        return cls(text.split("; "))

    @property
    def text(self):
        """The instructions, joined by a semicolon and one space."""
        return "; ".join(self.instructions)

    def listing(self):
        """Return a list with one text for each line."""
        return [_listed(line, instruction) for line, instruction in enumerate(self.instructions)]

    def __len__(self):
        return len(self.instructions)

    def __iter__(self):
        return iter(self.instructions)


def standard_program():
    """Return the program that works whenever there is no obstacle."""
    return Program.read(_STANDARD)


def _fits(line, instruction, count):
    """Return whether the instruction may stand at this line of a program of count lines."""
    if line == 0:
        return instruction == "rest"
    return _is_instruction(instruction, count)


def _is_instruction(text, count):
    # Splitting at each single space leaves an empty word, which is no word of an
    # instruction, wherever there is a space too many.
    words = text.split(" ")
    if len(words) == 1:
        return text in _SINGLE_WORDS
    if len(words) == 2 and words[0] == "go":
        return _is_line(words[1], count)
    if len(words) == 2 and words[0] == "wait":
        return words[1] in CONDITIONS
    if len(words) == 3 and words[0] in ("if", "unless"):
        return words[1] in CONDITIONS and _is_line(words[2], count)
    return False


def _is_line(word, count):
    # Compared as texts, because a line has one way to be written only.
    return word in [str(line) for line in range(count)]


def _listed(line, instruction):
    word, _, others = instruction.partition(" ")
    # A single word is not padded, because no text of a listing ends with a space.
    if not others:
        return f"{line:>3}  {word}"
    return f"{line:>3}  {word:<7}{others}"
