"""Long runs: programs by chance, beside what Python itself makes of them (drawn.py)."""

import random
import unittest

from drawn import Fails, drawn_parts, model_rows, model_task, model_world
from helping import contents_of, same_value
from renamed import WORDS, other_contents, other_program, other_rows
from workerworlds.boxes import Box
from workerworlds.errors import TaskFailed
from workerworlds.programs import Program
from workerworlds.tasks import Task, run_task
from workerworlds.worlds import World

MARKS = "XYZabc"
OTHER_NAMES = ["item", "out", "answer", "given", "sent x", "sent a", "z", " "]


def some_contents(chance, marks=MARKS):
    return "".join(mark for mark in marks if chance.randrange(2))


class Modules(unittest.TestCase):

    def test_imported_and_begun_row_by_row(self):
        chance = random.Random(11)
        for _ in range(400):
            marks, module, caller, task = drawn_parts(chance)
            for many in range(len(module) + 1):
                program = Program(marks, module[:many], [], [])
                self.assertTrue(same_value(program.imported().rows(), model_rows(model_world(module[:many]))))
                self.assertEqual(program.begun().rows(), program.imported().rows())
            for many in range(len(caller) + 1):
                program = Program(marks, module, caller[:many], task)
                wanted = model_rows(model_world(caller[:many], model_world(module)))
                self.assertTrue(same_value(program.begun().rows(), wanted))
                self.assertEqual(program.imported().rows(), model_rows(model_world(module)))
                self.assertEqual(program.begun().rows(), wanted)
                self.assertEqual(program.names(), program.begun().names())

    def test_written_and_read(self):
        chance = random.Random(12)
        for _ in range(400):
            marks, module, caller, task = drawn_parts(chance)
            text = "\n".join([f"marks {marks}", "module", *module, "caller", *caller, "task", *task])
            program = Program.read(text)
            self.assertEqual(str(program), text)
            self.assertEqual(str(Program(marks, module, caller, task)), text)
            self.assertEqual(program.global_names(), sorted({row.split(" ")[0] for row in module}))
            own = {row.split(" ")[0] for row in caller} - set(program.global_names())
            self.assertEqual(program.own_names(), sorted(own))
            self.assertEqual(program.letters()[-len(own):] if own else [], [("name", name) for name in sorted(own)])


class Run:
    """One world and its model, with tasks that are run in both; all boxes that were seen stand beside their sets."""

    def __init__(self, test, chance, program):
        self.test = test
        self.program = program
        self.world = program.begun()
        self.model = model_world(program.caller, model_world(program.module))
        self.task = Task(program)
        self.model_task = model_task(program)
        self.seen = [(self.world[name], marks) for name, marks in self.model.items()]
        for name in chance.sample(OTHER_NAMES, 3):
            self.bind(name, *self.some_box(chance))
        for name in program.names():
            if chance.randrange(3) == 0:
                self.bind(name, *self.some_box(chance))

    def bind(self, name, box, marks):
        self.world[name] = box
        self.model[name] = marks

    def some_box(self, chance):
        """A box that was seen, or a new one, beside its set."""
        if self.seen and chance.randrange(2):
            return chance.choice(self.seen)
        contents = some_contents(chance)
        self.seen.append((Box(contents), set(contents)))
        return self.seen[-1]

    def step(self, chance):
        box, marks = self.some_box(chance)
        try:
            answer = self.model_task(self.model, marks)
        except Fails as failure:
            with self.test.assertRaises(TaskFailed) as caught:
                self.task(self.world, box)
            told = caught.exception
            self.test.assertTrue(same_value((told.at, told.told, told.cause), (-1, failure.told, failure.cause)))
        else:
            self.seen.append((self.task(self.world, box), answer))
        self.compare()

    def compare(self):
        self.test.assertEqual(self.world.rows(), model_rows(self.model))
        places = {}
        for box, marks in self.seen + [(self.world[name], marks) for name, marks in self.model.items()]:
            self.test.assertIs(box.__class__, Box)
            self.test.assertEqual(str(box), contents_of(marks))
            # The same box has the same set, and the same set the same box.
            self.test.assertIs(places.setdefault(("box", id(box)), marks), marks)
            self.test.assertIs(places.setdefault(("set", id(marks)), box), box)


class Tasks(unittest.TestCase):

    def test_tasks_in_one_world_call_by_call(self):
        chance = random.Random(13)
        for _ in range(500):
            run = Run(self, chance, Program(*drawn_parts(chance)))
            for _ in range(5):
                run.step(chance)

    def test_tasks_up_to_each_row(self):
        chance = random.Random(14)
        for _ in range(150):
            marks, module, caller, task = drawn_parts(chance)
            for at in range(len(task)):
                if len(task) < 16:
                    # Each row of a right task may have a `stop` ahead of it.
                    program = Program(marks, module, caller, task[:at] + ["stop"] + task[at:])
                    run = Run(self, chance, program)
                    run.step(chance)

    def test_run_task(self):
        chance = random.Random(15)
        for _ in range(1500):
            program = Program(*drawn_parts(chance))
            model = {}
            for name in program.global_names() + chance.sample(["answer", "given", "sent x", "z", "own"], 2):
                shared = chance.choice(sorted(model)) if model and chance.randrange(3) == 0 else None
                model[name] = model[shared] if shared else set(some_contents(chance))
            rows = model_rows(model)
            if chance.randrange(2):
                name = chance.choice(sorted(model))
                item, passed = ("name", name), model[name]
            else:
                contents = some_contents(chance, program.marks)
                item, passed = ("box", contents), set(contents)
            try:
                answer = model_task(program)(model, passed)
            except Fails as failure:
                wanted = ("failed", model_rows({**model, "item": passed}), failure.told, failure.cause)
            else:
                wanted = ("done", model_rows({**model, "item": passed, "out": answer}))
            found = run_task(program, rows, item)
            self.assertTrue(same_value(found, wanted), (str(program), rows, item, found, wanted))


class Renamed(unittest.TestCase):
    """The same program with other words and other marks."""

    def test_it_behaves_the_same(self):
        chance = random.Random(16)
        for _ in range(600):
            marks, module, caller, task = drawn_parts(chance)
            program = Program(marks, module, caller, task)
            other = other_program(marks, module, caller, task)
            self.assertEqual(other.imported().rows(), other_rows(program.imported().rows()))
            self.assertEqual(other.begun().rows(), other_rows(program.begun().rows()))
            self.assertEqual(other.names(), sorted(WORDS[name] for name in program.names()))
            rows = program.begun().rows()
            for contents in ["", some_contents(chance, marks), some_contents(chance, marks)]:
                found = run_task(program, rows, ("box", contents))
                again = run_task(other, other_rows(rows), ("box", other_contents(contents)))
                told = [other_contents(text) for text in found[2:]]
                self.assertEqual(again, (found[0], other_rows(found[1]), *told))
            world, others = World.read(rows), World.read(other_rows(rows))
            for name in program.names():
                found = run_task(program, world.rows(), ("name", name))
                again = run_task(other, others.rows(), ("name", WORDS[name]))
                self.assertEqual((again[0], again[1]), (found[0], other_rows(found[1])))


if __name__ == "__main__":
    unittest.main()
