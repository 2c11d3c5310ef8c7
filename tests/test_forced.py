"""SENSEs, and the ROWs that force hosts (promises 2, 3 and 7)."""

import itertools
import random
import unittest

from onehostmore.books import Book
from onehostmore.crowds import is_row
from onehostmore.errors import NoKind
from onehostmore.forced import (
    all_never, beats, follows, how_long, is_sense, least_waste, never, parting_book, row_against, sort_of)
from onehostmore.patterns import bent, four, pair_and_three, paw, third
from models import SENSES, jobs_behind, next_deeds, shortest, told_beats, told_least_waste
from things import STRANGE, Refusing, all_books, bent_things, deep_book, lists_for, many_kinds, nested, some_books

CHAIN = Book.of("a b c d; a-b b-c c-d")
LONER = Book.of("s x z; x-z")
PAW = Book.of("a b c d; a-d b-c b-d c-d")
BOOKS = [book for kinds in ("", "a", "ab", "abc") for book in all_books(tuple(kinds))]
NAMES = many_kinds(40)


def unlike_books(kinds):
    """One of those books with these kinds that are the same but for the names."""
    found = {}
    for book in all_books(kinds):
        orders = [dict(zip(kinds, order)) for order in itertools.permutations(kinds)]
        found.setdefault(min(sorted(sorted((order[one], order[other])) for one, other in book.clashes)
                             for order in orders).__repr__(), book)
    return list(found.values())


def told_never(book, sense):
    """Whether no ROW beats, by the patterns that the sorts lack."""
    deeds, measure, who = sense
    if four(book):
        return False
    if deeds == "comings":
        return who != "lazy" or pair_and_three(book) is None
    if measure == "moment":
        return third(book) is None
    return paw(book) is None if who == "some" else third(book) is None or bent(book) is None


def some_rows(kinds, length, many, seed):
    source = random.Random(seed)
    for _ in range(many):
        row = ()
        while len(row) < length:
            comings = [("come", kind) for kind in kinds]
            row = (*row, source.choice(comings + [deed for deed in next_deeds(kinds, row) if deed[0] == "go"][:2]))
        yield row


class Senses(unittest.TestCase):

    def test_is_sense(self):
        for sense in SENSES:
            self.assertIs(is_sense(sense), True)
            for thing in bent_things(sense, ("comings", "goings", "moment", "peak", "some", "first", "lazy", "", "last", 0,
                                             True, None, (), Book(()))):
                self.assertIs(is_sense(thing), type(thing) is tuple and thing in SENSES, thing)
            for depth in range(1, 12):
                self.assertIs(is_sense(nested(sense, depth)), False)
        for thing in STRANGE:
            self.assertIs(is_sense(thing), False)
        self.assertEqual(len(SENSES), 12)

    def test_sort_of(self):
        told = {("comings", "moment", "some"): "tree", ("comings", "peak", "some"): "tree",
                ("comings", "moment", "first"): "tree", ("comings", "peak", "first"): "tree",
                ("comings", "moment", "lazy"): "lazy", ("comings", "peak", "lazy"): "lazy",
                ("goings", "moment", "some"): "moment", ("goings", "moment", "first"): "moment",
                ("goings", "moment", "lazy"): "moment", ("goings", "peak", "some"): "peak",
                ("goings", "peak", "first"): "lots", ("goings", "peak", "lazy"): "lots"}
        self.assertEqual({sense: sort_of(sense) for sense in SENSES}, told)


class Never(unittest.TestCase):

    def test_by_the_patterns(self):
        for book in [*BOOKS, *some_books(("a", "b", "c", "d"), 150, 1), *some_books(("a", "b", "c", "d", "e"), 80, 2)]:
            told = [sense for sense in SENSES if told_never(book, sense)]
            self.assertEqual(all_never(book), tuple(sorted(told)), book.text)
            for sense in SENSES:
                self.assertIs(never(book, sense), sense in told)
                self.assertIs(how_long(book, sense) is None, sense in told)
                self.assertIs(row_against(book, sense) is None, sense in told)

    def test_edges(self):
        for book in (Book(()), Book(("a",)), Book.of("a; a-a"), Book.of("a b; a-b"), Book(NAMES), Book(NAMES).turned()):
            self.assertEqual(all_never(book), tuple(SENSES))
        self.assertEqual(all_never(CHAIN), ())
        self.assertEqual(list(all_never(LONER)), sorted(all_never(LONER)))

    def test_follows_and_parting_book(self):
        books = sorted(BOOKS, key=lambda book: (len(book), book.clashes))
        for one in SENSES:
            for other in SENSES:
                told = [book for book in books if told_never(book, one) and not told_never(book, other)]
                self.assertIs(follows(one, other), not told)
                self.assertEqual(parting_book(one, other), told[0] if told else None)

    def test_follows_holds_in_greater_books(self):
        for book in [*some_books(("a", "b", "c", "d", "e"), 100, 3), deep_book(NAMES, 3)]:
            for one in SENSES:
                for other in SENSES:
                    if follows(one, other) and never(book, one):
                        self.assertTrue(never(book, other))


class HowLong(unittest.TestCase):

    def check(self, book, most):
        """Against a look through all ROWs of at most so many deeds."""
        found = shortest(book, most)
        for sense in SENSES:
            length = how_long(book, sense)
            if length is not None and length > most:
                length = None
            self.assertEqual(length, found.get(sense), (book.text, sense))

    def test_against_all_rows_of_small_books(self):
        for kinds in ("", "a", "ab", "abc"):
            for book in unlike_books(tuple(kinds)):
                self.check(book, 6)

    def test_against_all_rows_of_five_deeds(self):
        for book in unlike_books(("a", "b", "c", "d"))[::3]:
            self.check(book, 5)
        for text in ("p q x y z; p-q x-z y-z", "a b c d e; a-b b-c c-d d-e", "a b c d e; a-c a-e b-c b-e c-d d-e"):
            self.check(Book.of(text), 5)

    def check_row(self, book):
        for sense in SENSES:
            row = row_against(book, sense)
            if row is not None:
                self.assertTrue(is_row(book, row))
                self.assertEqual(len(row), how_long(book, sense))
                self.assertIn(len(row), (4, 5, 6))
                self.assertIs(beats(book, sense, row), True, (book.text, sense, row))
                self.assertIs(told_beats(book, sense, row), True)
                for deeds in range(len(row)):
                    self.assertIs(beats(book, sense, row[:deeds]), False)

    def test_rows_against_beat(self):
        for book in BOOKS:
            self.check_row(book)
        for kinds, many in ((("a", "b", "c", "d"), 60), (("a", "b", "c", "d", "e", "f"), 60)):
            for book in some_books(kinds, many, many + len(kinds)):
                self.check_row(book)

    def test_books_with_trees(self):
        for one in all_books(("a", "b")):
            for other in some_books(("c", "d", "e"), 10, 3):
                self.check_row(one.beside(other))
                self.check_row(one.against(other))

    def test_lengths(self):
        loner, pair = LONER, Book.of("p q x y z; p-q x-z y-z")
        for book, sense, length in (
                (CHAIN, ("comings", "peak", "lazy"), 4), (CHAIN, ("goings", "peak", "some"), 4),
                (pair, ("comings", "moment", "lazy"), 5), (pair, ("comings", "peak", "lazy"), 5),
                (pair, ("goings", "peak", "lazy"), 5), (pair, ("goings", "peak", "first"), 6),
                (pair, ("goings", "peak", "some"), None), (pair, ("comings", "moment", "some"), None),
                (PAW, ("goings", "peak", "some"), 5), (PAW, ("goings", "peak", "first"), 5),
                (PAW, ("goings", "peak", "lazy"), 5), (loner, ("goings", "peak", "lazy"), 6),
                (loner, ("goings", "moment", "first"), 4), (loner, ("comings", "peak", "lazy"), None)):
            self.assertEqual(how_long(book, sense), length, (book.text, sense))

    def test_forty_kinds(self):
        half = NAMES[:20], NAMES[20:]
        books = [deep_book(NAMES, step) for step in (1, 2, 3, 5)]
        books += [Book(half[0]).turned().beside(Book(half[1]).turned()), Book(half[0]).against(Book(half[1])),
                  Book(half[0]).against(Book(half[1][:9])).beside(Book(half[1][9:]).turned()),
                  Book(NAMES[:36]).beside(Book(NAMES[36:], list(zip(NAMES[36:], NAMES[37:])))), *some_books(NAMES, 3, 4)]
        for book in books:
            self.check_row(book)
            told = [sense for sense in SENSES if row_against(book, sense) is None]
            self.assertEqual(all_never(book), tuple(told))


class Beats(Refusing):

    def check(self, book, row):
        for measure in ("moment", "peak"):
            self.assertEqual(least_waste(book, row, measure), told_least_waste(book, row, measure), (book.text, row))
        for sense in SENSES:
            self.assertIs(beats(book, sense, row), told_beats(book, sense, row), (book.text, sense, row))

    def test_against_all_that_keepers_can_do(self):
        for book in some_books(("a", "b", "c"), 12, 1):
            for row in some_rows(book.kinds, 6, 4, 5):
                self.check(book, row)
        for text in ("a b c d; a-b b-c c-d", "a b c d; a-d b-c b-d c-d", "s x z; x-z", "a b c d e; a-b a-e b-c c-d d-e",
                     "a b c; a-a b-c", "p q x y z; p-q x-z y-z", "a b c d; a-b b-b b-c c-d"):
            book = Book.of(text)
            for row in some_rows(book.kinds, 7, 12, 6):
                for deeds in (0, 3, 5, 7):
                    self.check(book, row[:deeds])

    def test_one_of_two_chains_may_be_put_well(self):
        # A keeper that knows the ROW parts a and d, but not e and h: it has one host too many, never two.
        book = CHAIN.against(Book.of("e f g h; e-f f-g g-h"))
        row = tuple(("come", kind) for kind in "adehfgbc")
        self.assertEqual((least_waste(book, row, "moment"), least_waste(book, row, "peak")), (1, 1))
        self.assertEqual(least_waste(book, row[:4], "moment"), 0)

    def test_empty(self):
        for book in (Book(()), CHAIN):
            for sense in SENSES:
                self.assertIs(beats(book, sense, ()), False)
            self.assertEqual((least_waste(book, (), "moment"), least_waste(book, (), "peak")), (0, 0))

    def test_comings_alone(self):
        row = (("come", "a"), ("come", "d"), ("come", "b"), ("come", "c"))
        for sense in SENSES:
            self.assertIs(beats(CHAIN, sense, row), True)
            self.assertIs(beats(CHAIN, sense, (*row, ("go", 0))), sense[0] == "goings")

    def test_ten_deeds(self):
        calm = Book(NAMES)
        row = tuple(("come", kind) for kind in NAMES[:10])
        full = calm.turned()
        mixed = Book(NAMES, [pair for pair in full.clashes if pair[1] in NAMES[:5]])
        for book in (calm, full, mixed):
            self.assertEqual(least_waste(book, row, "moment"), 0)
            self.assertIs(beats(book, ("comings", "moment", "lazy"), row), False)
        book = Book.of("p q x y z; p-q x-z y-z")
        row = tuple(("come", kind) for kind in "pqxxxyyyyz")
        self.assertIs(beats(book, ("comings", "peak", "lazy"), row), True)
        self.assertIs(beats(book, ("comings", "peak", "first"), row), False)
        self.assertIs(beats(book, ("comings", "peak", "some"), row), False)
        for book in (Book.of("a b c d e; a-b a-e b-c c-d d-e"), *some_books(NAMES[:10], 3, 8)):
            row = tuple(("come", kind) for kind in (book.kinds * 2)[:10])
            self.assertGreaterEqual(least_waste(book, row, "moment"), least_waste(book, row, "peak"))
        for row in some_rows(CHAIN.kinds, 10, 6, 9):
            self.assertLessEqual(len(jobs_behind(row)), 10)
            self.assertIs(beats(CHAIN, ("goings", "moment", "some"), row), least_waste(CHAIN, row, "moment") > 0)

    def test_no_kind(self):
        row = (("come", "a"), ("go", 0), ("come", "y"), ("come", "x"))
        for given in (row, lists_for(row)):
            for sense in SENSES:
                self.refuses(NoKind, {"kind": "y"}, beats, CHAIN, sense, given)
                self.refuses(NoKind, {"kind": "a"}, beats, LONER, sense, given)
            for measure in ("moment", "peak"):
                self.refuses(NoKind, {"kind": "y"}, least_waste, CHAIN, given, measure)


if __name__ == "__main__":
    unittest.main()
