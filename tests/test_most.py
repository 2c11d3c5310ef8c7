"""The most hosts that first-free opens, and the most that it wastes (promises 2, 3 and 10)."""

import itertools
import random
import unittest

from onehostmore.books import Book, knots, peaces
from onehostmore.errors import Selfish
from onehostmore.most import is_pile, is_spread, most_hosts, most_waste, pieces, row_of, tallest, wasting_row
from models import clash_by, least_need
from things import STRANGE, Refusing, all_books, bent_things, many_kinds, nested, some_books

CHAIN = Book.of("a b c d; a-b b-c c-d")
NAMES = many_kinds(40)
MIXED = [*[book for kinds in ("", "a", "ab", "abc") for book in all_books(tuple(kinds))],
         *some_books(("a", "b", "c", "d", "e"), 40, 1), *some_books(("a", "b", "c", "d", "e", "f", "g"), 40, 2)]


def unselfish(book):
    return Book(book.kinds, [pair for pair in book.clashes if pair[0] != pair[1]])


CALM = [unselfish(book) for book in MIXED[:3] + MIXED[3:80:3] + MIXED[80:]]
CALM += [unselfish(book) for book in some_books(("a", "b", "c", "d", "e", "f"), 60, 3)]


def first_free(book, kinds):
    """The hosts, as lists of kinds, that first-free makes of jobs of these kinds."""
    clash = clash_by(book)
    hosts = []
    for kind in kinds:
        for host in hosts:
            if not any(clash(kind, other) for other in host):
                host.append(kind)
                break
        else:
            hosts.append([kind])
    return hosts


def all_orders(book, most):
    """All rows of unlike kinds of the book, at most so many."""
    for size in range(min(most, len(book)) + 1):
        yield from itertools.permutations(book.kinds, size)


def told_most(book):
    """The greatest number of hosts, and the greatest waste, of all rows of unlike kinds."""
    hosts = waste = 0
    for kinds in all_orders(book, 6):
        many = len(first_free(book, kinds))
        hosts = max(hosts, many)
        waste = max(waste, many - least_need(book, kinds))
    return hosts, waste


def told_pieces(book):
    for parts in (knots(book), peaces(book)):
        if len(parts) > 1:
            return [piece for kinds in parts for piece in told_pieces(book.only(kinds))]
    return [book.kinds] if len(book) else []


class Pieces(unittest.TestCase):

    def test_against_a_plain_parting(self):
        for book in MIXED:
            self.assertEqual(pieces(book), tuple(sorted(told_pieces(book))), book.text)
            for piece in pieces(book):
                self.assertTrue(len(piece) == 1 or len(piece) > 3)

    def test_edges(self):
        self.assertEqual(pieces(Book(())), ())
        self.assertEqual(pieces(Book(("a",))), (("a",),))
        self.assertEqual(pieces(Book.of("a; a-a")), (("a",),))
        both = CHAIN.beside(Book.of("p q r s t; p-q p-t q-r r-s s-t")).against(Book.of("x y; x-x"))
        self.assertEqual(pieces(book=both), (("a", "b", "c", "d"), ("p", "q", "r", "s", "t"), ("x",), ("y",)))
        self.assertEqual(pieces(Book(NAMES, list(zip(NAMES, NAMES[1:])))), (NAMES,))
        self.assertEqual(pieces(Book(NAMES).turned()), tuple((kind,) for kind in NAMES))


class Spreads(unittest.TestCase):

    def told(self, book, thing):
        """Whether it is a SPREAD by the words of the document."""
        if type(thing) is not tuple:
            return False
        for host in thing:
            if type(host) is not tuple or not host or not all(
                    type(kind) is str and kind in book.kinds for kind in host):
                return False
            if list(host) != sorted(set(host)) or any(book.clash(*pair) for pair in itertools.combinations(host, 2)):
                return False
        kinds = [kind for host in thing for kind in host]
        return len(set(kinds)) == len(kinds)

    def told_pile(self, book, thing):
        return self.told(book, thing) and all(
            any(book.clash(kind, other) for other in ahead)
            for at, host in enumerate(thing) for kind in host for ahead in thing[:at])

    def spreads(self, book):
        """All tuples of tuples of kinds, each kind in at most one of them."""
        yield ()
        for size in range(1, len(book) + 1):
            for kinds in itertools.permutations(book.kinds, size):
                for cuts in itertools.product((0, 1), repeat=size - 1):
                    hosts = [[kinds[0]]]
                    for kind, cut in zip(kinds[1:], cuts):
                        if cut:
                            hosts.append([kind])
                        else:
                            hosts[-1].append(kind)
                    yield tuple(map(tuple, hosts))

    def test_against_the_words(self):
        for book in [*MIXED[:75:4], CHAIN, CHAIN.turned(), Book.of("a b c d; a-a a-b a-c b-d")]:
            for thing in self.spreads(book):
                self.assertIs(is_spread(book, thing), self.told(book, thing), (book.text, thing))
                self.assertIs(is_pile(book, thing), self.told_pile(book, thing), (book.text, thing))

    def test_bent_in_one_place(self):
        for spread in ((("a", "d"), ("b",), ("c",)), (("a", "c"), ("b", "d")), (("b",), ("c",)), (("d",),)):
            self.assertIs(is_spread(CHAIN, spread), True)
            for thing in bent_things(spread, ("a", "b", "x", "", "ad", 0, True, None, (), ("c",), ("a", "d"), Book(("a",)))):
                self.assertIs(is_spread(CHAIN, thing), self.told(CHAIN, thing), thing)
                self.assertIs(is_pile(CHAIN, thing), self.told_pile(CHAIN, thing), thing)

    def test_strange_things(self):
        for book in (Book(()), Book(("x",)), CHAIN):
            for thing in STRANGE:
                self.assertIs(is_spread(book, thing), self.told(book, thing), thing)
                self.assertIs(is_pile(book, thing), self.told_pile(book, thing), thing)
            for depth in range(1, 11):
                self.assertIs(is_spread(book, nested((("a",),), depth)), False)
                self.assertIs(is_pile(book, nested((("a",),), depth)), False)
        self.assertIs(is_spread(CHAIN, ()), True)
        self.assertIs(is_pile(CHAIN, ()), True)

    def test_selfish_kinds(self):
        own = Book.of("a b; a-a b-b")
        self.assertIs(is_spread(own, (("a", "b"),)), True)
        self.assertIs(is_pile(own, (("a", "b"),)), True)
        self.assertIs(is_pile(own, (("a",), ("b",))), False)

    def test_row_of(self):
        self.assertEqual(row_of(()), ())
        self.assertEqual(row_of((("a", "d"), ("b",), ("c",))), ("a", "d", "b", "c"))
        self.assertEqual(row_of(pile=[["b"], ["a", "c"]]), ("b", "a", "c"))


class Most(Refusing):

    def check(self, book, hosts, waste):
        self.assertEqual(most_hosts(book), hosts, book.text)
        self.assertEqual(most_waste(book), waste, book.text)
        pile, row = tallest(book), wasting_row(book)
        self.assertEqual(len(pile), hosts)
        self.assertTrue(is_pile(book, pile), (book.text, pile))
        self.assertEqual(first_free(book, row_of(pile)), list(map(list, pile)))
        self.assertIs(type(row), tuple)
        self.assertEqual(len(set(row)), len(row))
        self.assertTrue(set(row) <= set(book.kinds))
        if waste == 0:
            self.assertEqual(row, ())
        return row

    def test_against_all_rows_of_comings(self):
        wasted = set()
        for book in CALM:
            if len(book) < 7:
                hosts, waste = told_most(book)
                row = self.check(book, hosts, waste)
                self.assertEqual(len(first_free(book, row)) - least_need(book, row), waste)
                wasted.add(waste)
        self.assertEqual(wasted, {0, 1})

    def test_rows_with_kinds_twice_have_no_more(self):
        for book in [unselfish(book) for book in some_books(("a", "b", "c", "d"), 8, 5)] + [CHAIN]:
            for kinds in itertools.product(book.kinds, repeat=6):
                self.assertLessEqual(len(first_free(book, kinds)), most_hosts(book))

    def test_piles_have_no_more_sets(self):
        for book in CALM:
            if len(book) < 5:
                found = [thing for thing in Spreads().spreads(book) if is_pile(book, thing)]
                self.assertEqual(max(map(len, found)), most_hosts(book))

    def test_seven_kinds(self):
        source = random.Random(6)
        for book in CALM:
            if len(book) == 7:
                hosts, waste = most_hosts(book), most_waste(book)
                row = self.check(book, hosts, waste)
                self.assertEqual(len(first_free(book, row)) - least_need(book, row), waste)
                for _ in range(60):
                    kinds = source.sample(book.kinds, source.randint(3, 7))
                    many = len(first_free(book, kinds))
                    self.assertLessEqual(many, hosts)
                    self.assertLessEqual(many - least_need(book, kinds), waste)

    def test_beside_and_against(self):
        small = [unselfish(book) for book in some_books(("a", "b", "c", "d"), 20, 8)] + [CHAIN, Book(())]
        others = [Book(()), Book(("x",)), Book.of("p q r s; p-q q-r r-s"), Book.of("p q r s t; p-q p-t q-r r-s s-t")]
        for one in small:
            for other in others:
                beside, against = one.beside(other), one.against(other)
                row = self.check(beside, max(most_hosts(one), most_hosts(other)), max(most_waste(one), most_waste(other)))
                self.assertEqual(len(first_free(beside, row)) - least_need(beside, row), most_waste(beside))
                row = self.check(against, most_hosts(one) + most_hosts(other), most_waste(one) + most_waste(other))
                self.assertEqual(len(first_free(against, row)) - least_need(against, row), most_waste(against))

    def test_edges(self):
        self.assertEqual((most_hosts(Book(())), tallest(Book(())), most_waste(Book(())), wasting_row(Book(()))),
                         (0, (), 0, ()))
        self.assertEqual((most_hosts(Book(("a",))), tallest(Book(("a",))), most_waste(Book(("a",)))), (1, (("a",),), 0))
        self.assertEqual((tallest(book=CHAIN), wasting_row(book=CHAIN)), (tallest(CHAIN), wasting_row(CHAIN)))
        self.assertEqual((most_hosts(book=CHAIN), most_waste(book=CHAIN)), (3, 1))

    def test_selfish(self):
        for text, kind in (("a; a-a", "a"), ("a b c; b-b c-c", "b"), ("a b c d; a-b b-c c-d d-d", "d")):
            for act in (most_hosts, tallest, most_waste, wasting_row):
                self.refuses(Selfish, {"kind": kind}, act, Book.of(text))

    def test_nine_kinds(self):
        kinds = NAMES[:9]
        for book in map(unselfish, some_books(kinds, 12, 9)):
            row = self.check(book, most_hosts(book), most_waste(book))
            self.assertEqual(len(first_free(book, row)) - least_need(book, row), most_waste(book))
        # Each kind clashes with all of the other half but its like: first-free may need each pair for itself.
        crown = Book(NAMES[:8], [(one, other) for at, one in enumerate(NAMES[:4])
                                 for to, other in enumerate(NAMES[4:8]) if at != to])
        row = self.check(crown, 4, 2)
        self.assertEqual(len(first_free(crown, row)), 4)
        four = Book(()).beside(crown)
        for other in (NAMES[8:16], NAMES[16:24], NAMES[24:32], NAMES[32:]):
            names = dict(zip(NAMES[:8], other))
            four = four.against(Book(other, [(names[one], names[two]) for one, two in crown.clashes]))
        self.check(four, 20, 10)

    def test_forty_kinds_without_a_ring(self):
        # A kind with those below it: each of them is the root of a lesser tree of the same make.
        below = Book(NAMES, [(NAMES[at], NAMES[at & (at - 1)]) for at in range(1, 32)])
        row = self.check(below, 6, 4)
        self.assertEqual(len(first_free(below, row)), 6)
        self.check(Book(NAMES[:31], [pair for pair in below.clashes if NAMES[31] not in pair]), 5, 3)
        path = Book(NAMES, list(zip(NAMES, NAMES[1:])))
        self.check(path, 3, 1)
        star = Book(NAMES, [(NAMES[20], kind) for kind in NAMES if kind != NAMES[20]])
        self.check(star, 2, 0)

    def test_books_without_a_ring(self):
        source = random.Random(12)
        for many in (4, 6, 8, 9, 15):
            for _ in range(10):
                kinds = NAMES[:many]
                book = Book(kinds, [(kinds[source.randrange(at)], kinds[at]) for at in range(1, many)])
                hosts = most_hosts(book)
                row = self.check(book, hosts, max(0, hosts - 2))
                self.assertEqual(len(first_free(book, row)) - (2 if row else 0), most_waste(book))
                for _ in range(100):
                    order = source.sample(kinds, many)
                    self.assertLessEqual(len(first_free(book, order)), hosts)
                if many < 7:
                    self.assertEqual((hosts, most_waste(book)), told_most(book))


if __name__ == "__main__":
    unittest.main()
