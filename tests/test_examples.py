"""The examples of the document, all of them, each run by itself."""

import doctest
import unittest

from helping import bad_program
from workerworlds.programs import Program

EXAMPLES = """
>>> from workerworlds.boxes import Box
>>> str(Box("ab") ^ Box("bc"))
'ac'
---
>>> from workerworlds.worlds import World
>>> world = World.read(((("g", "h"), "ab"), (("x",), "")))
>>> world["h"].become("b")
>>> world.rows()
((('g', 'h'), 'b'), (('x',), ''))
---
>>> from workerworlds.programs import Program
>>> program = Program.read("marks ab\\nmodule\\ng = {a}\\ncaller\\nx = g\\ng = x | {b}\\ntask\\nout = g")
>>> program.begun().rows()
((('g',), 'ab'), (('x',), 'a'))
---
>>> from workerworlds.programs import Program
>>> from workerworlds.tasks import run_task
>>> program = Program("ab", ["g = {}"], [], ["g |= item", "out = g", "item -= {a}"])
>>> run_task(program, ((("g",), "b"),), ("box", "a"))
('done', ((('g', 'out'), 'ab'), (('item',), '')))
---
>>> from workerworlds.dealings import Cuts
>>> list(Cuts(3).each())
[(1, 1, 1), (1, 2), (2, 1), (3,)]
---
>>> from workerworlds.pools import Pool
>>> from workerworlds.programs import Program
>>> program = Program("ab", ["kept = {}"], [], ["kept |= item", "out = kept"])
>>> items = [("box", "a"), ("box", "b")]
>>> [Pool(program, "here").map(items), Pool(program, "copied").map(items), Pool(program, "anew", chunk=2).map(items)]
[['ab', 'ab'], ['a', 'b'], ['ab', 'ab']]
---
>>> from workerworlds.judging import judge
>>> from workerworlds.programs import Program
>>> judge(Program("a", [], [], ["out = item"]), "copied").certificate
('alike', (((), (), (), False, 0), ((), (), (), False, 1), ((), (), (), True, 1)))
---
>>> from workerworlds.judging import judge
>>> from workerworlds.programs import Program
>>> program = Program("a", ["kept = {}"], [], ["kept |= item"])
>>> [len(judge(program, "anew")), len(judge(program, "anew", seen="answers")), len(judge(program, "anew", back=("kept",)))]
[1, 0, 0]
---
>>> from workerworlds.judging import judge
>>> from workerworlds.programs import Program
>>> program = Program("a", ["kept = {}"], [], ["kept |= item", "out = kept"])
>>> one = judge(program, "copied", workers=1, seen="answers")
>>> other = judge(program, "copied", workers=1, chunk=2, seen="answers")
>>> [len(one), len(other), other.certificate[2], other.certificate[3]]
[2, 3, (2, 1), (0, 0)]
---
>>> from workerworlds.programs import Program
>>> from workerworlds.repairs import least, made_anew
>>> program = Program("a", ["g = {a}", "h = g"], ["g -= {a}"], ["out = h"])
>>> [made_anew(program, ["h", "g"]).task, least(program, "anew", "begin"), least(program, "copied", "begin")]
[('g = {a}', 'h = g', 'out = h'), [('h',)], [()]]
---
>>> from workerworlds.programs import Program
>>> from workerworlds.repairs import spread
>>> program = Program("a", ["kept = {}"], [], ["kept |= item", "out = kept"])
>>> [row[1:] for row in spread(program, "copied", [("box", "a"), ("box", "")])]
[((1, 1), (0, 0)), ((1, 1), (0, 1))]
---
>>> from workerworlds.pools import Pool
>>> from workerworlds.programs import Program
>>> program = Program.read("marks ab\\nmodule\\nkept = {}\\ncaller\\ntask\\nkept |= item\\nout = kept")
>>> items = [("box", "a"), ("box", "b")]
>>> Pool(program, "here").outcome(items).answers
('ab', 'ab')
>>> Pool(program, "copied", workers=1).outcome(items, cut=(1, 1)).answers
('a', 'ab')
>>> Pool(program, "anew", workers=1).outcome(items, cut=(2,)).answers
('ab', 'ab')
>>> Pool(program, "copied").outcome(items, cut=(1, 1), dealing=(0, 1)).answers
('a', 'b')
"""


class Examples(unittest.TestCase):

    def test_each_example(self):
        for text in EXAMPLES.split("---\n"):
            with self.subTest(text=text):
                example = doctest.DocTestParser().get_doctest(text, {}, "example", None, 0)
                self.assertGreater(len(example.examples), 1)
                found = []
                failed = doctest.DocTestRunner(verbose=False).run(example, out=found.append).failed
                self.assertEqual((failed, found), (0, []))

    def test_the_program_that_is_wrong(self):
        bad_program(self, "task", 2, Program, "ab", ["g = {a}"], [], ["out = g", "if a in out"])


if __name__ == "__main__":
    unittest.main()
