"""Clashes changed (promises 2, 3 and 10)."""

import itertools
import random
import unittest

from onehostmore.books import Book
from onehostmore.changes import all_changes, changed, least_change
from onehostmore.errors import NoKind
from onehostmore.patterns import bent, four, pair_and_three, paw, third
from things import Refusing, all_books, many_kinds, pairs_of, some_books

CHAIN = Book.of("a b c d; a-b b-c c-d")
PENT = Book.of("a b c d e; a-b a-e b-c c-d d-e")
SORTS = ("tree", "lazy", "peak", "lots", "moment")
WAYS = ("give", "add", "both")
SMALL = [book for kinds in ("", "a", "ab") for book in all_books(tuple(kinds))] + list(all_books(("a", "b", "c")))[::3]
FOURS = [*some_books(("a", "b", "c", "d"), 10, 1), CHAIN]
FIVES = [PENT, PENT.turned(), *some_books(("a", "b", "c", "d", "e"), 2, 2)]


def told_sort(book):
    """The sorts of the book, by its patterns."""
    if four(book) is not None:
        return []
    without = {"tree": True, "lazy": pair_and_three(book) is None, "peak": paw(book) is None,
               "lots": third(book) is None or bent(book) is None, "moment": third(book) is None}
    return [sort for sort in SORTS if without[sort]]


def toggled(book, pairs):
    return Book(book.kinds, set(book.clashes) ^ set(pairs))


def told_changes(book):
    """For each sort and way: all sets of fewest pairs, ascending, by a look at all sets of pairs."""
    pairs = pairs_of(book.kinds)
    ways = {"give": set(book.clashes), "add": set(pairs) - set(book.clashes), "both": set(pairs)}
    found = {}
    for size in range(len(pairs) + 1):
        for chosen in itertools.combinations(pairs, size):
            sorts = None
            for way, allowed in ways.items():
                if set(chosen) <= allowed and any(len(found.get((sort, way), [chosen])[0]) == size for sort in SORTS):
                    sorts = told_sort(toggled(book, chosen)) if sorts is None else sorts
                    for sort in sorts:
                        if len(found.get((sort, way), [chosen])[0]) == size:
                            found.setdefault((sort, way), []).append(chosen)
        if len(found) == len(SORTS) * len(WAYS):
            return {key: sorted(sets) for key, sets in found.items()}
    raise AssertionError(book.text)


class Changed(Refusing):

    def test_against_the_words(self):
        source = random.Random(3)
        for book in [*SMALL[2:], *FOURS, *FIVES]:
            for _ in range(6):
                pairs = source.choices(pairs_of(book.kinds), k=source.randint(0, 5))
                given = tuple([pair[::source.choice((1, -1))] for pair in (*pairs, *pairs[:2])])
                once = set(pairs)
                self.assertEqual(changed(book, given), Book(book.kinds, [
                    pair for pair in pairs_of(book.kinds) if (pair in book.clashes) != (pair in once)]), (book.text, given))

    def test_each_pair(self):
        for book in [*SMALL, *FOURS]:
            self.assertEqual(changed(book, ()), book)
            self.assertEqual(changed(book, pairs_of(book.kinds)), book.turned())
            for one, other in itertools.product(book.kinds, repeat=2):
                after = changed(book, ((one, other),))
                self.assertEqual(after, changed(book, ((other, one), (one, other), (one, other))))
                self.assertIs(after.clash(one, other), not book.clash(one, other))
                self.assertEqual(len(set(after.clashes) ^ set(book.clashes)), 1)
                self.assertEqual(changed(after, [[other, one]]), book)

    def test_no_kind(self):
        for pairs, kind in (((("a", "x"), ("y", "a")), "x"), ((("y", "x"),), "y"), ((("a", "b"), ("x", "x")), "x"),
                            ([["a", "b"], ["b", "z"]], "z")):
            self.refuses(NoKind, {"kind": kind}, changed, CHAIN, pairs)
        self.refuses(NoKind, {"kind": "a"}, changed, Book(()), (("a", "a"),))
        self.assertEqual(changed(Book(()), ()), Book(()))

    def test_the_book_and_the_pairs_stay(self):
        pairs = [["d", "a"], ["b", "b"]]
        self.assertEqual(changed(pairs=pairs, book=CHAIN).text, "a b c d; a-b a-d b-b b-c c-d")
        self.assertEqual((pairs, CHAIN.text), ([["d", "a"], ["b", "b"]], "a b c d; a-b b-c c-d"))


class Changes(unittest.TestCase):

    def check(self, book):
        for (sort, way), told in told_changes(book).items():
            found = all_changes(book, sort, way)
            self.assertEqual(found, told, (book.text, sort, way))
            self.assertEqual(repr(least_change(book, sort, way)), repr(told[0]))
            self.assertIs(type(found), list)

    def test_against_all_sets_of_pairs(self):
        for book in [*SMALL, *FOURS]:
            self.check(book)

    def test_five_kinds(self):
        for book in FIVES:
            self.check(book)

    def test_what_is_of_the_sort_already(self):
        for book in (Book(()), Book(("a",)), Book(("a", "b", "c", "d", "e")), Book(("a", "b", "c", "d", "e")).turned()):
            for sort, way in itertools.product(SORTS, WAYS):
                self.assertEqual(all_changes(book, sort, way), [()])
                self.assertEqual(least_change(book, sort, way), ())

    def test_giving_up_a_clash_can_make_things_worse(self):
        ring = Book.of("a b c d; a-b a-d b-c c-d")
        self.assertEqual(told_sort(ring)[0], "tree")
        self.assertEqual(told_sort(changed(ring, (("a", "d"),))), [])

    def test_each_way_changes_only_what_it_may(self):
        for book in [*FOURS, *FIVES]:
            for sort in SORTS:
                self.assertTrue(set(least_change(book, sort, "give")) <= set(book.clashes))
                self.assertFalse(set(least_change(book, sort, "add")) & set(book.clashes))
                fewest = len(least_change(book, sort, "both"))
                self.assertLessEqual(fewest, len(least_change(book, sort, "give")))
                self.assertLessEqual(fewest, len(least_change(book, sort, "add")))

    def test_new_lists_and_names(self):
        found = all_changes(way="give", sort="tree", book=CHAIN)
        self.assertEqual(found, [(("a", "b"),), (("b", "c"),), (("c", "d"),)])
        found.clear()
        self.assertEqual(len(all_changes(CHAIN, "tree", "give")), 3)
        self.assertEqual(least_change(way="add", sort="tree", book=CHAIN), (("a", "c"),))

    def test_the_bound(self):
        kinds = many_kinds(5)
        for book in some_books(kinds, 6, 4):
            for sort, way in itertools.product(SORTS, WAYS):
                for chosen in all_changes(book, sort, way):
                    self.assertIn(sort, told_sort(changed(book, chosen)))


if __name__ == "__main__":
    unittest.main()
