"""Long runs: pools of programs by chance, call by call, beside pools of Python's own sets (pooled.py)."""

import random
import unittest

from drawn import drawn_cut, drawn_dealing, drawn_letters, drawn_names, drawn_parts, drawn_plain, model_rows
from helping import same_value
from pooled import ModelPool, Stays, as_tuple
from workerworlds.errors import CannotCross, Closed, TaskFailed
from workerworlds.pools import Pool
from workerworlds.programs import Program


class Pair:
    """A pool and its model."""

    def __init__(self, test, chance, program, way):
        self.test, self.chance, self.program = test, chance, program
        self.workers = chance.randrange(1, 5)
        settings = {
            "workers": self.workers, "chunk": chance.randrange(1, 5), "begin": drawn_names(chance, program),
            "back": drawn_names(chance, program), "renew": chance.random() < 0.3}
        try:
            self.model = ModelPool(program, way, **settings)
        except Stays as stays:
            with test.assertRaises(CannotCross) as caught:
                Pool(program, way, **settings)
            test.assertEqual((caught.exception.at, caught.exception.what), (stays.at, "begin"))
            settings["begin"] = []
            self.model = ModelPool(program, way, **settings)
        self.pool = Pool(program, way, **settings)
        self.compare()

    def compare(self):
        self.test.assertEqual(self.pool.rows(), model_rows(self.model.caller))
        for at, world in enumerate(self.model.worlds):
            self.test.assertEqual(self.pool.worker(at), model_rows(world))

    def call(self):
        """Items, and what is told of their cut and dealing."""
        items = drawn_letters(self.chance, self.program, self.chance.randrange(8))
        told = {}
        if self.chance.randrange(2):
            told["cut"] = drawn_cut(self.chance, len(items))
            if self.chance.randrange(2):
                told["dealing"] = drawn_dealing(self.chance, len(told["cut"]), self.workers)
        return items, told

    def outcome(self):
        items, told = self.call()
        found = as_tuple(self.pool.outcome(items, **told))
        wanted = self.model.outcome(items, **told)
        self.test.assertTrue(same_value(found, wanted), (str(self.program), items, told, found, wanted))

    def answers(self):
        items, told = self.call()
        answers, failure, _, _ = self.model.outcome(items, **told)
        kind = self.chance.randrange(3)
        found = []
        try:
            if kind == 0:
                found += self.pool.map(items, **told)
            elif kind == 1:
                found += self.pool.apply(*items, **told)
            else:
                for answer in self.pool.each(items, **told):
                    found.append(answer)
        except TaskFailed as error:
            self.test.assertEqual(("failed", error.at, error.told, error.cause), failure)
        except CannotCross as error:
            self.test.assertEqual(("crossing", error.at, error.what), failure)
        else:
            self.test.assertIsNone(failure)
        self.test.assertEqual(found, list(answers) if kind == 2 or failure is None else [])

    def do(self):
        names = self.program.names()
        if names:
            row = drawn_plain(self.chance, self.program.marks, names, names)
            self.pool.do(row)
            self.model.do(row)

    def step(self):
        self.chance.choice([self.outcome, self.outcome, self.answers, self.do])()
        self.compare()


class Pools(unittest.TestCase):

    def run_beside_the_model(self, way, seed, many):
        chance = random.Random(seed)
        for _ in range(many):
            pair = Pair(self, chance, Program(*drawn_parts(chance)), way)
            for _ in range(8):
                pair.step()
            pair.pool.shut()
            with self.assertRaises(Closed):
                pair.answers()

    def test_here(self):
        self.run_beside_the_model("here", 31, 300)

    def test_copied(self):
        self.run_beside_the_model("copied", 32, 500)

    def test_anew(self):
        self.run_beside_the_model("anew", 33, 500)

    def test_the_model_meets_each_failure(self):
        chance, met = random.Random(34), set()
        for _ in range(600):
            program = Program(*drawn_parts(chance))
            model = ModelPool(program, "copied", back=program.global_names())
            _, failure, _, _ = model.outcome(drawn_letters(chance, program, 4), drawn_cut(chance, 4))
            met.add(failure and (failure[0], failure[-1] if failure[0] == "crossing" else failure[3] is None))
        self.assertEqual(met, {
            None, ("failed", True), ("failed", False), ("crossing", "item"), ("crossing", "error"),
            ("crossing", "answer"), ("crossing", "back")})


if __name__ == "__main__":
    unittest.main()
