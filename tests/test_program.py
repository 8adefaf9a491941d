"""Programs: points 1, 4, 5, 6, 7 and 20 and the interface of ownlabels/program.py."""

import itertools
import unittest

from ownlabels.errors import BadInstruction, BadProgram
from ownlabels.program import Program, standard_program

CONDITIONS = ["first", "empty", "mine", "other", "none", "full", "enough", "behind"]
SINGLE_WORDS = ["rest", "room", "take", "give", "on", "take*", "give*", "on*"]
# Every kind of instruction and, in the waits, every condition.
LONG = ["rest", "room", "take", "give", "on", "take*", "give*", "on*", "rest",
        "go 0", "go 9", "go 10", "go 23", "if first 0", "unless full 23", "if none 14",
        "wait first", "wait empty", "wait mine", "wait other", "wait none", "wait full",
        "wait enough", "wait behind"]
LONG_LISTING = [
    "  0  rest", "  1  room", "  2  take", "  3  give", "  4  on", "  5  take*", "  6  give*",
    "  7  on*", "  8  rest", "  9  go     0", " 10  go     9", " 11  go     10",
    " 12  go     23", " 13  if     first 0", " 14  unless full 23", " 15  if     none 14",
    " 16  wait   first", " 17  wait   empty", " 18  wait   mine", " 19  wait   other",
    " 20  wait   none", " 21  wait   full", " 22  wait   enough", " 23  wait   behind"]
BRANCHES = ["rest", *[f"{word} {condition} {line}" for line, (word, condition) in
                      enumerate(itertools.product(["if", "unless"], CONDITIONS))]]
STANDARD_TEXT = "rest; take*; if enough 7; unless behind 1; give*; wait none; go 1; room; give*"
GOOD = {"one line": ["rest"], "24 lines": LONG, "all branches": BRANCHES}


class MakingTest(unittest.TestCase):
    def check(self, program, instructions):
        self.assertIs(type(program), Program)
        self.assertEqual(program.instructions, tuple(instructions))
        self.assertIs(type(program.instructions), tuple)
        self.assertEqual(program.text, "; ".join(instructions))
        self.assertEqual(len(program), len(instructions))
        self.assertEqual([instruction for instruction in program], instructions)
        self.assertEqual(list(program), instructions)
        again = Program.read(program.text)
        self.assertEqual(again.instructions, program.instructions)
        self.assertEqual(again.listing(), program.listing())

    def test_from_a_list(self):
        for name, instructions in GOOD.items():
            with self.subTest(name=name):
                given = list(instructions)
                program = Program(given)
                self.assertEqual(given, instructions)
                self.assertIs(type(given), list)
                self.check(program, instructions)

    def test_from_a_tuple(self):
        for name, instructions in GOOD.items():
            with self.subTest(name=name):
                self.check(Program(tuple(instructions)), instructions)

    def test_from_a_text(self):
        for name, instructions in GOOD.items():
            with self.subTest(name=name):
                self.check(Program.read("; ".join(instructions)), instructions)

    def test_every_number_of_lines(self):
        for count in range(1, 25):
            with self.subTest(count=count):
                self.check(Program(["rest"] * count), ["rest"] * count)

    def test_later_changes_of_the_list_have_no_effect(self):
        for name, instructions in GOOD.items():
            with self.subTest(name=name):
                given = list(instructions)
                program = Program(given)
                given[0] = "room"
                given.append("take")
                self.check(program, instructions)

    def test_two_loops_one_within_the_other(self):
        program = Program(["rest", "take", "room"])
        seen = [(outer, inner) for outer in program for inner in program]
        self.assertEqual(seen, list(itertools.product(["rest", "take", "room"], repeat=2)))

    def test_longest(self):
        self.assertEqual(Program.LONGEST, 24)
        self.assertEqual(Program(["rest"]).LONGEST, 24)
        self.assertNotIn("LONGEST", vars(Program(["rest"])))

    def test_text_is_a_property(self):
        self.assertIs(type(Program.text), property)


class GoodLineTest(unittest.TestCase):
    """Each instruction of point 4 at line 1, in programs of every length."""

    def accept(self, instruction, count):
        instructions = ["rest", instruction, *["on"] * (count - 2)]
        with self.subTest(instruction=instruction, count=count):
            self.assertEqual(Program(instructions).instructions, tuple(instructions))

    def test_single_words(self):
        for word in SINGLE_WORDS:
            self.accept(word, 2)

    def test_waits(self):
        for condition in CONDITIONS:
            self.accept(f"wait {condition}", 2)

    def test_each_line_of_each_program(self):
        for count in range(2, 25):
            for line in range(count):
                self.accept(f"go {line}", count)
                for word, condition in itertools.product(["if", "unless"], CONDITIONS):
                    self.accept(f"{word} {condition} {line}", count)

    def test_a_line_may_name_itself(self):
        self.accept("go 1", 2)
        self.accept("if none 1", 2)
        self.accept("unless none 1", 2)


class ListingTest(unittest.TestCase):
    def test_the_example_of_the_document(self):
        self.assertEqual(Program.read("rest; if enough 0").listing(),
                         ["  0  rest", "  1  if     enough 0"])

    def test_one_line(self):
        self.assertEqual(Program(["rest"]).listing(), ["  0  rest"])

    def test_24_lines(self):
        for program in (Program(LONG), Program(tuple(LONG)), Program.read("; ".join(LONG))):
            self.assertEqual(program.listing(), LONG_LISTING)

    def test_branches(self):
        listing = Program(BRANCHES).listing()
        self.assertEqual(listing[1], "  1  if     first 0")
        self.assertEqual(listing[10], " 10  unless empty 9")
        self.assertEqual(listing[16], " 16  unless behind 15")

    def test_single_words_at_each_line(self):
        for word in SINGLE_WORDS:
            listing = Program(["rest", *[word] * 23]).listing()
            self.assertEqual(listing[1:10], [f"  {line}  {word}" for line in range(1, 10)])
            self.assertEqual(listing[10:], [f" {line}  {word}" for line in range(10, 24)])

    def test_no_text_ends_with_a_space(self):
        for instructions in GOOD.values():
            for text in Program(instructions).listing():
                self.assertEqual(text, text.rstrip())

    def test_is_a_list_and_new_each_time(self):
        program = Program(["rest", "go 0"])
        first = program.listing()
        self.assertIs(type(first), list)
        self.assertIsNot(program.listing(), first)
        first[0] = "changed"
        first.append("more")
        self.assertEqual(program.listing(), ["  0  rest", "  1  go     0"])
        self.assertEqual(program.instructions, ("rest", "go 0"))
        self.assertEqual(program.text, "rest; go 0")


class BadTest(unittest.TestCase):
    """What checks that a program is refused, and how."""

    def refuse(self, make, line, instruction):
        with self.assertRaises(BadProgram) as caught:
            make()
        error = caught.exception
        self.assertIs(type(error), BadProgram)
        self.assertEqual(error.line, line)
        if instruction is None:
            self.assertIsNone(error.__cause__)
        else:
            self.assertIs(type(error.__cause__), BadInstruction)
            self.assertEqual(error.__cause__.instruction, instruction)

    def refuse_lines(self, instructions, line, instruction):
        """Refused from a list, which stays as it was, and from a tuple."""
        with self.subTest(instructions=instructions):
            given = list(instructions)
            self.refuse(lambda: Program(given), line, instruction)
            self.assertEqual(given, list(instructions))
            self.refuse(lambda: Program(tuple(instructions)), line, instruction)

    def refuse_text(self, text, line, instruction):
        with self.subTest(text=text):
            self.refuse(lambda: Program.read(text), line, instruction)


class BadLengthTest(BadTest):
    def test_no_instruction(self):
        self.refuse_lines([], -1, None)

    def test_too_many(self):
        for count in (25, 26, 100):
            self.refuse_lines(["rest"] * count, -1, None)
            self.refuse_text("; ".join(["rest"] * count), -1, None)

    def test_too_many_goes_before_invalid_lines(self):
        self.refuse_lines(["room"] * 25, -1, None)
        self.refuse_lines(["nonsense"] * 25, -1, None)
        self.refuse_text("; " * 24, -1, None)


class BadFirstLineTest(BadTest):
    def test_line_0_is_not_rest(self):
        others = [word for word in SINGLE_WORDS if word != "rest"]
        for instruction in [*others, "go 0", "go 1", "wait none", "if none 1", "unless none 0"]:
            self.refuse_lines([instruction, "rest"], 0, instruction)
            self.refuse_text(f"{instruction}; rest", 0, instruction)

    def test_line_0_is_no_instruction(self):
        for instruction in ["", " ", "rest ", " rest", "Rest", "REST", "rest*", "rest rest", "jump"]:
            self.refuse_lines([instruction], 0, instruction)
            self.refuse_lines([instruction, "room"], 0, instruction)
            self.refuse_text(instruction, 0, instruction)


class LeastLineTest(BadTest):
    def test_the_least_of_several(self):
        self.refuse_lines(["rest", "room", "jump", "stop", "go 9"], 2, "jump")
        self.refuse_lines(["rest", "go 5", "jump", "stop", ""], 1, "go 5")
        self.refuse_lines(["take", "jump", "stop"], 0, "take")
        self.refuse_text("rest; on; Room; jump; go 01", 2, "Room")

    def test_each_line(self):
        for line in range(24):
            instructions = ["rest"] * line + ["jump"] + ["also wrong"] * (23 - line)
            self.refuse_lines(instructions, line, "jump")
            self.refuse_text("; ".join(instructions), line, "jump")


class BadLineTest(BadTest):
    """Texts that are no instruction at line 1 of a program of 12 lines."""

    def refuse_line(self, instruction):
        instructions = ["rest", instruction, *["on"] * 10]
        self.refuse_lines(instructions, 1, instruction)
        self.refuse_text("; ".join(instructions), 1, instruction)

    def test_wrong_words(self):
        for text in ["", "jump", "none", "0", "res", "rests", "rooms", "tak", "giv", "o", "ont",
                     "first", "goto 1", "when none 1", "while none", "if never 1", "unless free 1",
                     "wait forever", "wait rest", "go none", "go rest", "if 1 1", "if 1 none",
                     "if none none", "unless 2 none", "wait 1", "rest;", ";", "rest;room", "go,1",
                     "restroom", "if none, 1", "'rest'", "take *", "*"]:
            self.refuse_line(text)

    def test_parts_of_words(self):
        for condition in CONDITIONS:
            for wrong in [condition[:-1], condition[1:], condition + "s", condition + "*"]:
                self.refuse_line(f"wait {wrong}")
                self.refuse_line(f"if {wrong} 1")
                self.refuse_line(f"unless {wrong} 1")

    def test_single_words_are_no_conditions(self):
        for word in SINGLE_WORDS:
            self.refuse_line(f"wait {word}")
            self.refuse_line(f"if {word} 1")
            self.refuse_line(f"unless {word} 1")

    def test_conditions_are_no_instructions(self):
        for condition in CONDITIONS:
            self.refuse_line(condition)
            self.refuse_line(f"{condition} 1")

    def test_capital_letters(self):
        for word in SINGLE_WORDS:
            self.refuse_line(word.upper())
            self.refuse_line(word.title())
        for text in ["Go 1", "GO 1", "Wait none", "wait None", "wait NONE", "If none 1",
                     "if None 1", "Unless none 1", "unless NONE 1"]:
            self.refuse_line(text)

    def test_stars_in_the_wrong_place(self):
        for text in ["rest*", "room*", "*take", "*give", "*on", "ta*ke", "take**", "give**", "on**",
                     "take *", "give *", "on *", "go* 1", "go *1", "go 1*", "if* none 1",
                     "if none* 1", "if none 1*", "unless* none 1", "wait* none", "wait none*"]:
            self.refuse_line(text)

    def test_words_too_many_or_too_few(self):
        for word in SINGLE_WORDS:
            for more in ["1", "none", word, "none 1"]:
                self.refuse_line(f"{word} {more}")
        for text in ["go", "go 1 1", "go none 1", "go 1 none", "wait", "wait none 1", "wait none none",
                     "wait 1 none", "if", "if none", "if 1", "if none 1 1", "if none none 1",
                     "if not none 1", "unless", "unless none", "unless 1", "unless none 1 1",
                     "unless none 1 none", "go go 1", "wait wait none"]:
            self.refuse_line(text)

    def test_spaces(self):
        for text in [*SINGLE_WORDS, "go 1", "wait none", "if none 1", "unless none 1"]:
            self.refuse_line(f" {text}")
            self.refuse_line(f"{text} ")
            self.refuse_line(f"  {text}")
            self.refuse_line(f"{text}  ")
            if " " in text:
                self.refuse_line(text.replace(" ", "  "))
        for text in [" ", "  ", "   ", "go ", "wait ", "if  1", "if none ", "unless none  1",
                     "unless  none 1", "re st"]:
            self.refuse_line(text)

    def test_line_numbers(self):
        for number in ["00", "01", "001", "010", "011", "+1", "-1", "+0", "-0", "1.", "1.0", "1_0",
                       "0x1", "1e0", "12", "13", "24", "99", "100", "1" + "0" * 59, "-" + "9" * 60,
                       "one", "a", "1a", "#1", "(1)", "1,", ":1"]:
            self.refuse_line(f"go {number}")
            self.refuse_line(f"if none {number}")
            self.refuse_line(f"unless none {number}")

    def test_beyond_the_last_line_in_each_program(self):
        for count in range(2, 25):
            for text in [f"go {count}", f"if full {count}", f"unless full {count}", f"go {count + 1}"]:
                self.refuse_lines(["rest", text, *["on"] * (count - 2)], 1, text)
        self.refuse_lines([*["rest"] * 23, "go 24"], 23, "go 24")


class BadTextTest(BadTest):
    def test_the_empty_text(self):
        self.refuse_text("", 0, "")

    def test_semicolon_without_a_space(self):
        self.refuse_text("rest;room", 0, "rest;room")
        self.refuse_text("rest;", 0, "rest;")
        self.refuse_text("rest; take;give; room", 1, "take;give")
        self.refuse_text("rest; room;", 1, "room;")
        self.refuse_text(";rest", 0, ";rest")

    def test_semicolons_too_many(self):
        self.refuse_text("rest; ", 1, "")
        self.refuse_text("; rest", 0, "")
        self.refuse_text("rest;; room", 0, "rest;")
        self.refuse_text("rest; ; room", 1, "")
        self.refuse_text("; ", 0, "")

    def test_spaces_around_the_semicolon(self):
        self.refuse_text("rest;  room", 1, " room")
        self.refuse_text("rest ; room", 0, "rest ")
        self.refuse_text("rest; room ; take", 1, "room ")
        self.refuse_text(" rest; room", 0, " rest")
        self.refuse_text("rest; room ", 1, "room ")
        self.refuse_text("rest;   room", 1, "  room")

    def test_other_separators(self):
        self.refuse_text("rest, room", 0, "rest, room")
        self.refuse_text("rest room", 0, "rest room")


class StandardProgramTest(unittest.TestCase):
    def test_text(self):
        program = standard_program()
        self.assertIs(type(program), Program)
        self.assertEqual(program.text, STANDARD_TEXT)
        self.assertEqual(program.instructions, tuple(STANDARD_TEXT.split("; ")))
        self.assertEqual(len(program), 9)

    def test_again(self):
        standard_program().listing().clear()
        self.assertEqual(standard_program().text, STANDARD_TEXT)


if __name__ == "__main__":
    unittest.main()
