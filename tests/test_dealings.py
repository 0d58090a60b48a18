"""Cuts and dealings: point 18 and the section workerworlds/dealings.py of the interface."""

import itertools
import unittest

from calls import all_cuts
from helping import bad_setting, no_strings, same_value, too_many
from workerworlds import dealings
from workerworlds.dealings import Cuts, Dealings, even_cut, in_turn


# Values that are no integers, and integers that are none of a setting's.
WRONG_NUMBERS = [thing for thing in no_strings() if thing.__class__ is not int] + [
    "", "3", "a", "None", -1, -(10 ** 29), 10 ** 29, [3], (3,), [1, 2], (1, 2)]


class Interface(unittest.TestCase):

    def test_what_the_module_has(self):
        for thing in [dealings.even_cut, dealings.in_turn, dealings.Cuts, dealings.Dealings]:
            self.assertEqual(thing.__module__, "workerworlds.dealings")
        for name in ["__len__", "__contains__", "each"]:
            self.assertIn(name, Cuts.__dict__)
            self.assertIn(name, Dealings.__dict__)


class EvenCuts(unittest.TestCase):

    def test_each_count_and_chunk(self):
        for count, chunk in itertools.product(range(121), range(1, 10)):
            left = count % chunk
            wanted = (chunk,) * (count // chunk) + ((left,) if left else ())
            self.assertTrue(same_value(even_cut(count, chunk), wanted))

    def test_no_items(self):
        for chunk in range(1, 10):
            self.assertTrue(same_value(even_cut(0, chunk), ()))

    def test_the_last_chunk_may_be_smaller(self):
        self.assertTrue(same_value(even_cut(7, 3), (3, 3, 1)))
        self.assertTrue(same_value(even_cut(6, 3), (3, 3)))
        self.assertTrue(same_value(even_cut(2, 3), (2,)))
        self.assertTrue(same_value(even_cut(1, 9), (1,)))
        self.assertTrue(same_value(even_cut(3, 1), (1, 1, 1)))

    def test_by_name(self):
        self.assertEqual(even_cut(chunk=2, count=5), (2, 2, 1))


class InTurn(unittest.TestCase):

    def test_each_number_of_chunks_and_workers(self):
        for chunks, workers in itertools.product(range(121), range(1, 10)):
            wanted = (tuple(range(workers)) * 121)[:chunks]
            self.assertTrue(same_value(in_turn(chunks, workers), wanted))

    def test_one_worker(self):
        self.assertTrue(same_value(in_turn(4, 1), (0, 0, 0, 0)))

    def test_no_chunks(self):
        self.assertTrue(same_value(in_turn(0, 3), ()))
        self.assertTrue(same_value(in_turn(0, 1), ()))

    def test_fewer_chunks_than_workers(self):
        self.assertTrue(same_value(in_turn(2, 9), (0, 1)))
        self.assertTrue(same_value(in_turn(1, 2), (0,)))

    def test_by_name(self):
        self.assertEqual(in_turn(workers=2, chunks=3), (0, 1, 0))


class Walks:
    """What both classes have in common: made gives one of them, wanted what it gives, ascending."""

    def check(self, made, wanted):
        self.assertTrue(same_value(list(made.each()), wanted))
        self.assertTrue(same_value(list(made.each()), wanted))
        self.assertEqual(wanted, sorted(wanted))
        self.assertEqual(len(set(wanted)), len(wanted))
        self.assertEqual(len(made), len(wanted))
        self.assertIs(len(made).__class__, int)
        for thing in wanted:
            self.assertIs(thing in made, True)

    def check_two_walks(self, made, wanted):
        one, other = made.each(), made.each()
        self.assertEqual(next(one), wanted[0])
        self.assertEqual(next(one), wanted[1])
        self.assertEqual(next(other), wanted[0])
        self.assertEqual(list(one), wanted[2:])
        self.assertEqual(list(other), wanted[1:])
        self.assertEqual(list(one), [])
        self.assertEqual([pair for pair in zip(made.each(), made.each())], [(thing, thing) for thing in wanted])
        self.assertEqual(len(made), len(wanted))

    def check_a_generator(self, made):
        walk = made.each()
        self.assertIs(iter(walk), walk)
        self.assertEqual(next(walk), next(made.each()))

    def refuses(self, made, things):
        for thing in things:
            self.assertIs(thing in made, False, thing)


class AllCuts(unittest.TestCase, Walks):

    def test_the_example(self):
        self.assertEqual(list(Cuts(3).each()), [(1, 1, 1), (1, 2), (2, 1), (3,)])

    def test_every_count(self):
        for count in range(13):
            self.check(Cuts(count), all_cuts(count))
            self.check(Cuts(count, chunk=None), all_cuts(count))
            self.assertEqual(len(Cuts(count)), 2 ** max(count - 1, 0))

    def test_no_items(self):
        for chunk in [None, 1, 2, 9]:
            self.check(Cuts(0, chunk=chunk), [()])
            self.refuses(Cuts(0, chunk=chunk), [(0,), (1,), (0, 0), [], None, "", 0, ((),)])

    def test_every_even_cut(self):
        for count, chunk in itertools.product(range(13), range(1, 10)):
            self.check(Cuts(count, chunk=chunk), [even_cut(count, chunk)])
            self.refuses(Cuts(count, chunk=chunk), [cut for cut in all_cuts(count) if cut != even_cut(count, chunk)])

    def test_by_name(self):
        self.assertEqual(list(Cuts(count=3).each()), list(Cuts(3).each()))
        self.assertEqual(list(Cuts(chunk=2, count=3).each()), [(2, 1)])
        with self.assertRaises(TypeError):
            Cuts(3, 2)

    def test_walks(self):
        for made in [Cuts(5), Cuts(3), Cuts(2)]:
            self.check_two_walks(made, list(made.each()))
        for made in [Cuts(0), Cuts(4), Cuts(4, chunk=3)]:
            self.check_a_generator(made)

    def test_what_is_no_cut(self):
        self.refuses(Cuts(3), [
            (), (1,), (2,), (4,), (1, 1), (1, 1, 1, 1), (2, 2), (1, 3), (3, 1), (0, 3), (3, 0), (1, 0, 2), (-1, 4),
            (4, -1),
            (1, 1, 1, 0), (0, 1, 2), ((1, 2),), ((1,), 2), (1, (2,)), ("1", 2), (None, 3), (1, None, 2), ("",), (3, ""),
            3, "3", None, True, False, "(3,)", "(1, 2)", (3, []), (10 ** 29, 3 - 10 ** 29), ((), 3)])

    def test_true_is_not_one_and_a_list_is_no_tuple(self):
        self.refuses(Cuts(3), [(True, 2), (2, True), (True, True, True), (1, 1, True), [1, 2], [3], [1, 1, 1], [[3]]])
        self.refuses(Cuts(1), [(True,), [1], True, 1])
        self.refuses(Cuts(3, chunk=2), [(2, True), [2, 1], (1, 2), (3,), (1, 1, 1), (2,), (2, 1, 0), (0, 2, 1), ()])
        self.refuses(Cuts(3, chunk=1), [(True, True, True), (1, 1, True), [1, 1, 1], (1, 1), (1, 1, 1, 1)])
        self.refuses(Cuts(1, chunk=5), [(True,), [1], (5,)])
        self.refuses(Cuts(2), [(1, True), (False, 2), (2, False), (True, 1)])

    def test_any_value(self):
        for made in [Cuts(0), Cuts(1), Cuts(3), Cuts(12), Cuts(5, chunk=2)]:
            self.refuses(made, [thing for thing in no_strings() if thing != ()] + ["", "a", made, list(made.each())])
        self.refuses(Cuts(5), [Cuts(5), tuple(Cuts(5).each()), list(Cuts(5).each()), (1,) * 600, (5,) * 300])

    def test_bad_counts(self):
        for count in WRONG_NUMBERS + [13, 14, 120]:
            bad_setting(self, "count", Cuts, count)
            bad_setting(self, "count", Cuts, count, chunk=2)
            bad_setting(self, "count", Cuts, count, chunk=0)
            bad_setting(self, "count", Cuts, count, chunk="?")

    def test_bad_chunks(self):
        for chunk in [thing for thing in WRONG_NUMBERS if thing is not None] + [0, 10, 12, 120]:
            bad_setting(self, "chunk", Cuts, 3, chunk=chunk)
            bad_setting(self, "chunk", Cuts, 0, chunk=chunk)
            bad_setting(self, "chunk", Cuts, 12, chunk=chunk)

    def test_two_share_nothing(self):
        one, other, third = Cuts(3), Cuts(4), Cuts(3, chunk=2)
        self.assertEqual([len(one), len(other), len(third)], [4, 8, 1])
        self.assertEqual([(1, 2) in one, (1, 2) in other, (1, 2) in third], [True, False, False])


class AllDealings(unittest.TestCase, Walks):

    def test_every_number(self):
        for chunks, workers in itertools.product(range(13), range(1, 10)):
            if workers ** chunks > 5000:
                too_many(self, "dealings", Dealings, chunks, workers)
            else:
                self.check(Dealings(chunks, workers), list(itertools.product(range(workers), repeat=chunks)))

    def test_no_chunks(self):
        for workers in range(1, 10):
            self.check(Dealings(0, workers), [()])
            self.refuses(Dealings(0, workers), [(0,), (1,), [], None, "", 0, ((),)])

    def test_as_many_as_there_may_be(self):
        for chunks, workers, many in [
                (12, 2, 4096), (7, 3, 2187), (6, 4, 4096), (5, 5, 3125), (4, 8, 4096), (12, 1, 1)]:
            self.assertEqual(len(Dealings(chunks, workers)), many)
        for chunks, workers in [(8, 3), (7, 4), (6, 5), (5, 6), (4, 9), (12, 9), (12, 3)]:
            too_many(self, "dealings", Dealings, chunks, workers)

    def test_by_name(self):
        self.assertEqual(list(Dealings(workers=3, chunks=1).each()), [(0,), (1,), (2,)])

    def test_walks(self):
        for made in [Dealings(3, 2), Dealings(2, 3), Dealings(1, 9)]:
            self.check_two_walks(made, list(made.each()))
        for made in [Dealings(0, 2), Dealings(3, 1), Dealings(2, 2)]:
            self.check_a_generator(made)

    def test_what_is_no_dealing(self):
        self.refuses(Dealings(2, 2), [
            (), (0,), (1,), (0, 0, 0), (0, 1, 0), (0, 2), (2, 0), (-1, 0), (0, -1), (0, 10 ** 29), ((0, 1),), ((0,), 1),
            ("0", "1"), (0, "1"), (None, 0), (0, None), 0, 1, None, True, "", "01", "(0, 1)", ((), ()), (0, [])])
        self.refuses(Dealings(2, 1), [(0, 1), (1, 0), (1, 1), (0,)])
        self.refuses(Dealings(1, 9), [(9,), (-1,), (0, 0)])

    def test_true_is_not_one_and_a_list_is_no_tuple(self):
        self.refuses(Dealings(2, 2), [
            (True, 0), (0, True), (False, 0), (0, False), (False, True), (True, True), [0, 1], [1, 1]])
        self.refuses(Dealings(1, 1), [(False,), [0], False, 0])
        self.refuses(Dealings(1, 2), [(True,), (False,), [1]])

    def test_any_value(self):
        for made in [Dealings(0, 1), Dealings(1, 2), Dealings(3, 2), Dealings(12, 2)]:
            self.refuses(made, [thing for thing in no_strings() if thing != ()] + ["", "a", made, list(made.each())])
        self.refuses(Dealings(3, 2), [Dealings(3, 2), tuple(Dealings(3, 2).each()), (0,) * 600])

    def test_bad_settings(self):
        for chunks in WRONG_NUMBERS + [13, 14, 120]:
            bad_setting(self, "chunks", Dealings, chunks, 2)
            bad_setting(self, "chunks", Dealings, chunks, 0)
            bad_setting(self, "chunks", Dealings, chunks, None)
        for workers in WRONG_NUMBERS + [0, 10, 12, 120]:
            bad_setting(self, "workers", Dealings, 3, workers)
            bad_setting(self, "workers", Dealings, 0, workers)
            bad_setting(self, "workers", Dealings, 12, workers)

    def test_two_share_nothing(self):
        one, other = Dealings(2, 2), Dealings(2, 3)
        self.assertEqual([len(one), len(other), (0, 2) in one, (0, 2) in other], [4, 9, False, True])


if __name__ == "__main__":
    unittest.main()
