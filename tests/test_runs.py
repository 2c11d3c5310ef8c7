"""All lazy RUNs of a ROW, and the ROWs by which keepers waste (promises 2, 3 and 9)."""

import collections
import itertools
import random
import unittest

from onehostmore.books import Book
from onehostmore.errors import NoNumber, TooMany
from onehostmore.keepers import WORDS, is_lazy, is_run
from onehostmore.patterns import four, pair_and_three, third
from onehostmore.runs import (
    beating, how_many_runs, least_open, most_open, number_of_run, opens_counted, run_at, runs, wasting)
from models import all_runs, hosts_along, limits, need_behind, next_deeds, told_run, waste_of
from things import STRANGE, Refusing, all_books, bent_things, lists_for, many_kinds, nested, some_books, some_row

BOOK = Book.of("p q x y z; p-q x-z y-z")
ROW = tuple(("come", kind) for kind in "pqxyz")
CHAIN = Book.of("a b c d; a-b b-c c-d")
NAMES = many_kinds(40)
BOOKS = [*all_books(("a", "b")), *some_books(("a", "b", "c"), 20, 1), *some_books(("a", "b", "c", "d"), 20, 2),
         *some_books(("a", "b", "c", "d", "e"), 20, 3), CHAIN, BOOK]


def some_cases():
    source = random.Random(4)
    for book in BOOKS:
        for length in (0, 4, 7, 10):
            yield book, some_row(source, book.kinds, length)
    for _ in range(4):
        kinds = list("pqxyz" * 2)
        source.shuffle(kinds)
        yield BOOK, tuple(("come", kind) for kind in kinds)


CASES = list(some_cases())


class Runs(Refusing):

    def test_against_a_look_at_all_tuples(self):
        for book, row in CASES:
            jobs = sum(word == "come" for word, _ in row)
            if jobs < 6:
                told = [thing for thing in itertools.product(range(jobs), repeat=jobs)
                        if is_run(book, row, thing) and is_lazy(book, row, thing)]
                self.assertEqual(runs(book, row), told, (book.text, row))

    def test_against_all_lazy_ones(self):
        for book, row in CASES:
            told = [run for run, _ in all_runs(book, row, "lazy")]
            self.assertEqual(told, sorted(told))
            self.assertEqual(runs(book, row, most=10 ** 40), told)
            self.assertEqual(how_many_runs(book, row), len(told))
            self.assertEqual(runs(book, lists_for(row)), told)

    def test_numbers_there_and_back(self):
        for book, row in CASES:
            told = runs(book, row)
            for number, run in list(enumerate(told))[:40]:
                self.assertEqual(run_at(book, row, number), run)
                self.assertEqual(number_of_run(book, row, run), number)
            for number in (-1, -len(told), len(told), len(told) + 1, 10 ** 40, -10 ** 40):
                self.refuses(NoNumber, {"number": number}, run_at, book, row, number)
            self.assertEqual(run_at(book, row, len(told) - 1), told[-1])

    def test_too_many(self):
        many = 0
        for book, row in CASES:
            found = how_many_runs(book, row)
            many = max(many, found)
            self.assertEqual(len(runs(book, row, most=found)), found)
            self.refuses(TooMany, {"most": found - 1}, runs, book, row, most=found - 1)
            self.refuses(TooMany, {"most": 0}, runs, book, row, most=0)
        self.assertGreater(many, 15)

    def test_too_many_where_nothing_is_said(self):
        # Five jobs that clash, and five that clash with none of all: 5 ** 5 ways.
        book = Book(NAMES[:10], list(itertools.combinations(NAMES[:5], 2)))
        row = tuple(("come", kind) for kind in NAMES[:10])
        self.assertEqual(how_many_runs(book, row), 3125)
        self.refuses(TooMany, {"most": 2000}, runs, book, row)
        self.refuses(TooMany, {"most": 3124}, runs, book, row, most=3124)
        self.assertEqual(len(runs(book, row, most=3125)), 3125)
        self.assertEqual(run_at(book, row, 3124), (0, 1, 2, 3, 4, 4, 4, 4, 4, 4))
        self.assertEqual(number_of_run(book, row, (0, 1, 2, 3, 4, 4, 4, 4, 4, 3)), 3123)
        self.assertEqual(opens_counted(book, row), [(5, 3125)])
        self.assertIsNone(wasting(book, row, "moment"))
        self.assertEqual(len(runs(book, row[:9])), 625)

    def test_number_of_things(self):
        told = runs(BOOK, ROW)
        for thing in STRANGE:
            self.assertIsNone(number_of_run(BOOK, ROW, thing))
            self.assertEqual(number_of_run(BOOK, (), thing), 0 if thing == () else None)
        for run in told:
            for thing in bent_things(run, (0, 1, 2, 3, -1, True, False, None, "0", (), (0,))):
                right = type(thing) is tuple and all(type(number) is int for number in thing) and thing in told
                self.assertEqual(number_of_run(BOOK, ROW, thing), told.index(thing) if right else None, thing)
            for depth in range(1, 12):
                self.assertIsNone(number_of_run(BOOK, ROW, nested(run, depth)))
        self.assertIsNone(number_of_run(BOOK, ROW[:2], (False, True)))
        # A RUN that is none of a lazy keeper.
        self.assertIs(is_run(BOOK, ROW, (0, 1, 2, 2, 0)), True)
        self.assertIsNone(number_of_run(BOOK, ROW, (0, 1, 2, 2, 0)))

    def test_without_deeds(self):
        for book in (Book(()), CHAIN):
            self.assertEqual((runs(book, ()), how_many_runs(book, ()), run_at(book, (), 0)), ([()], 1, ()))
            self.assertEqual((opens_counted(book, ()), least_open(book, ()), most_open(book, ())), ([(0, 1)], 0, 0))
            self.assertIsNone(wasting(book, (), "peak"))
            self.refuses(NoNumber, {"number": 1}, run_at, book, (), 1)
            self.refuses(TooMany, {"most": 0}, runs, book, (), most=0)

    def test_by_names(self):
        self.assertEqual(runs(most=4, row=ROW, book=BOOK), runs(BOOK, ROW))
        self.assertEqual(run_at(number=1, row=ROW, book=BOOK), (0, 1, 0, 1, 2))
        self.assertEqual(number_of_run(thing=(0, 1, 1, 1, 0), row=ROW, book=BOOK), 3)
        self.assertEqual(wasting(measure="moment", row=ROW, book=BOOK), (0, 1, 0, 1, 2))
        with self.assertRaises(TypeError):
            runs(BOOK, ROW, 4)
        with self.assertRaises(TypeError):
            beating(BOOK, "first", "peak", False)

    def test_new_lists(self):
        found = runs(BOOK, ROW)
        found.clear()
        self.assertEqual(len(runs(BOOK, ROW)), 4)
        found = opens_counted(BOOK, ROW)
        found.clear()
        self.assertEqual(opens_counted(BOOK, ROW), [(2, 2), (3, 2)])


class Open(unittest.TestCase):

    def test_opens_counted(self):
        for book, row in CASES:
            told = collections.Counter(len(hosts_along(row, run)[-1].hosts) for run in runs(book, row))
            self.assertEqual(opens_counted(book, row), sorted(told.items()))
            self.assertEqual((least_open(book, row), most_open(book, row)), (min(told), max(told)))
            for pair in opens_counted(book, row):
                self.assertIs(type(pair), tuple)

    def test_wasting(self):
        found = 0
        for book, row in CASES:
            for measure in ("moment", "peak"):
                bounds = limits(book, row, measure)
                told = [run for run, counts in all_runs(book, row, "lazy") if waste_of(counts, bounds)]
                self.assertEqual(wasting(book, row, measure), told[0] if told else None, (book.text, row))
                self.assertEqual(wasting(book, lists_for(row), measure), wasting(book, row, measure))
                found += bool(told)
        self.assertGreater(found, 10)


class Beating(unittest.TestCase):

    def told(self, book, who, measure, goings, most):
        """The first one of all ROWs, shorter ones first, by which the keeper wastes behind the last deed."""
        level = [()]
        for _ in range(most):
            level = [(*row, deed) for row in level for deed in next_deeds(book.kinds, row)
                     if goings or deed[0] == "come"]
            for row in level:
                least = need_behind(book, row)
                if measure == "peak":
                    least = max(need_behind(book, row[:deeds]) for deeds in range(len(row) + 1))
                if who == "lazy":
                    made = [run for run, _ in all_runs(book, row, "lazy")]
                else:
                    made = [told_run(book, row, who)]
                if any(len(hosts_along(row, run)[-1].hosts) > least for run in made):
                    return row
        return None

    def check(self, book, most, goings):
        for who in (*WORDS, "lazy"):
            for measure in ("moment", "peak"):
                found = beating(book, who, measure, goings=goings, most=most)
                told = self.told(book, who, measure, goings, most)
                self.assertEqual(found, told, (book.text, who, measure, goings))

    def test_against_all_rows_of_small_books(self):
        for kinds in ("", "a", "ab"):
            for book in all_books(tuple(kinds)):
                self.check(book, 4, True)
                self.check(book, 4, False)

    def test_against_all_rows_of_three_and_four_kinds(self):
        for book in list(all_books(("a", "b", "c")))[::9]:
            self.check(book, 4, True)
        for book in [*some_books(("a", "b", "c", "d"), 3, 1), CHAIN]:
            self.check(book, 4, False)
            self.check(book, 3, True)
        self.check(Book.of("p q s; p-q"), 5, True)
        self.check(Book.of("a b c; a-a a-b"), 5, False)

    def test_most(self):
        book = Book.of("p q s; p-q")
        row = (("come", "p"), ("come", "q"), ("come", "s"), ("go", 0), ("come", "q"), ("come", "p"))
        self.assertEqual(beating(book, "first", "peak", most=6), row)
        self.assertIsNone(beating(book, "first", "peak", most=5))
        self.assertIsNone(beating(book, "first", "peak"))
        self.assertEqual(len(beating(book, "first", "moment", most=4)), 4)
        self.assertIsNone(beating(book, "first", "moment", most=3))
        self.assertIsNone(beating(book, "first", "moment", most=0))
        self.assertIsNone(beating(book, "first", "moment", goings=False))
        self.assertEqual(len(beating(CHAIN, "lazy", "moment", goings=True, most=4)), 4)
        self.assertEqual(beating(most=4, goings=False, measure="peak", who="first", book=CHAIN),
                         (("come", "a"), ("come", "b"), ("come", "d"), ("come", "c")))

    def test_pair_and_three(self):
        book = Book.of("a b c; a-a b-c")
        self.assertIsNone(beating(book, "first", "moment", goings=False))
        found = beating(book, "lazy", "moment", goings=False)
        self.assertEqual(found, beating(book, "lazy", "peak", goings=False))
        self.assertEqual([kind for _, kind in found], ["a", "a", "b", "b", "c"])

    def test_guarantees(self):
        for book in all_books(("a", "b", "c")):
            if third(book) is None:
                self.assertIsNone(beating(book, "lazy", "moment", most=4))
            else:
                self.assertEqual(len(beating(book, "lazy", "moment", most=4)), 4)
            if four(book) is None and pair_and_three(book) is None:
                self.assertIsNone(beating(book, "lazy", "moment", goings=False))
            else:
                self.assertIsNotNone(beating(book, "lazy", "moment", goings=False))

    def test_six_deeds(self):
        for book in (Book(("a", "b", "c")), Book(("a", "b", "c")).turned(), Book.of("a b c; a-a b-b c-c")):
            for who in (*WORDS, "lazy"):
                for measure in ("moment", "peak"):
                    if third(book) is None:
                        self.assertIsNone(beating(book, who, measure, most=6))
        self.assertIsNone(beating(Book(()), "lazy", "peak", most=6))


if __name__ == "__main__":
    unittest.main()
