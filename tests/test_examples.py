"""The examples of the interface hold as they are printed."""

import doctest
import pathlib
import unittest

DOCUMENT = pathlib.Path(__file__).resolve().parent.parent.parent / "shared" / "DOC.md"
EXAMPLES = """
>>> from ownlabels.numbering import Numbering
>>> (Numbering([1, 2, 0]) * Numbering([0, 2, 1])).places
(1, 0, 2)

>>> from ownlabels.program import Program
>>> Program.read("rest; if enough 0").listing()
['  0  rest', '  1  if     enough 0']

>>> from ownlabels.numbering import Numbering
>>> from ownlabels.program import Program
>>> from ownlabels.system import System
>>> system = System(Program.read("rest; take; room"), [Numbering([1, 0])])
>>> system.step(system.step(system.start(), 1), 1)
((0, 1), ((2, 1),))

>>> from ownlabels.hall import Hall, visit
>>> from ownlabels.numbering import Numbering
>>> hall = Hall(3)
>>> desk = hall.add_worker(Numbering([2, 0, 1]))
>>> desk.take(0)
>>> desk.take(2)
>>> [hall.contents, visit(desk, ("see", 0), ("give", 0), ("see", 0)), hall.contents]
[(0, 1, 1), ['mine', None, 'empty'], (0, 1, 0)]

>>> from ownlabels.numbering import Numbering
>>> from ownlabels.program import Program
>>> from ownlabels.search import judge
>>> from ownlabels.system import assemble
>>> plain = Numbering.plain(1)
>>> judge(assemble(Program.read("rest; room"), plain, plain)).report()
['2 workers, 1 cells, capacity 1', 'worker 1: 0', 'worker 2: 0', '   1 1 rest', '   2 2 rest', 'crowd: 1 2']

>>> from ownlabels.rings import obstacle
>>> obstacle(4, 12, capacity=2)
3

>>> from ownlabels.program import standard_program
>>> from ownlabels.rings import lockstep
>>> stall = lockstep(standard_program(), 2, 2)
>>> [stall.KIND, stall.schedule, len(stall.cycle)]
['stall', (1, 2, 1, 2), 8]

>>> from ownlabels.numbering import Numbering
>>> from ownlabels.program import standard_program
>>> from ownlabels.progress import measure
>>> from ownlabels.system import System
>>> system = System(standard_program(), [Numbering.plain(3), Numbering.turn(3, 1)])
>>> measure(system, system.start())
(0, 2, 1, 0, 0, 0, 0, 0)
"""


class ExamplesTest(unittest.TestCase):
    def check(self, text):
        # The fence behind an example would be taken for a part of its result.
        test = doctest.DocTestParser().get_doctest(text.replace("```", ""), {}, "examples", None, 0)
        result = doctest.DocTestRunner().run(test)
        self.assertEqual(result.failed, 0)
        self.assertGreater(result.attempted, 30)

    def test_examples(self):
        self.check(EXAMPLES)

    def test_the_document_itself(self):
        if DOCUMENT.is_file():
            self.check(DOCUMENT.read_text(encoding="ascii"))


if __name__ == "__main__":
    unittest.main()
