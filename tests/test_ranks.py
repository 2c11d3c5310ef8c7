"""Orders of the kinds (promises 2, 3 and 10)."""

import itertools
import random
import unittest

from onehostmore.books import Book
from onehostmore.patterns import four, is_four
from onehostmore.ranks import bad_four, fine_order, how_many_fine
from models import least_need
from test_most import first_free
from things import all_books, many_kinds, some_books

CHAIN = Book.of("a b c d; a-b b-c c-d")
PENT = Book.of("a b c d e; a-b a-e b-c c-d d-e")
NAMES = many_kinds(40)
SMALL = [book for kinds in ("", "a", "ab", "abc") for book in all_books(tuple(kinds))]
BOOKS = [*SMALL[::5], *some_books(("a", "b", "c", "d"), 60, 1), *some_books(("a", "b", "c", "d", "e"), 40, 2), CHAIN, PENT]


def told_bad(book, order):
    found = [thing for thing in itertools.permutations(book.kinds, 4) if is_four(book, thing)
             and order.index(thing[0]) < order.index(thing[1]) and order.index(thing[3]) < order.index(thing[2])]
    return min(found, default=None)


class Ranks(unittest.TestCase):

    def test_against_all_orders(self):
        some = 0
        for book in BOOKS:
            fine = []
            for order in itertools.permutations(book.kinds):
                bad = told_bad(book, order)
                self.assertEqual(bad_four(book, order), bad, (book.text, order))
                if bad is None:
                    fine.append(order)
            self.assertEqual(fine_order(book), fine[0] if fine else None, book.text)
            self.assertEqual(how_many_fine(book), len(fine), book.text)
            some += four(book) is not None
        self.assertGreater(some, 15)

    def test_six_kinds(self):
        for book in some_books(("a", "b", "c", "d", "e", "f"), 8, 3):
            fours = [thing for thing in itertools.permutations(book.kinds, 4) if is_four(book, thing)]
            fine = []
            for order in itertools.permutations(book.kinds):
                place = {kind: at for at, kind in enumerate(order)}
                if not any(place[a] < place[b] and place[d] < place[c] for a, b, c, d in fours):
                    fine.append(order)
            self.assertEqual(how_many_fine(book), len(fine))
            self.assertEqual(fine_order(book), fine[0] if fine else None)

    def test_seven_kinds(self):
        kinds = tuple("abcdefg")
        ring = Book(kinds, [*zip(kinds, kinds[1:]), ("a", "g")])
        self.assertIsNone(fine_order(PENT))
        self.assertIsNone(fine_order(PENT.beside(Book(("f", "g")))))
        self.assertEqual(fine_order(Book(kinds)), kinds)
        # In these a beginning without a bad four leads to no order without one.
        blind = [Book.of("a b c d e f g; " + pairs) for pairs in (
            "a-c a-d b-d c-d c-g d-e e-g", "a-d b-f d-g e-f e-g", "a-c a-d a-e a-f b-d b-e b-f c-e c-g d-e d-g")]
        self.assertEqual([fine_order(book) for book in blind],
                         [tuple("bcadefg"), tuple("acdgefb"), tuple("acdbefg")])
        for book in [ring, ring.turned(), *blind, *some_books(kinds, 12, 4)]:
            fours = [thing for thing in itertools.permutations(kinds, 4) if is_four(book, thing)]
            told = None
            for order in itertools.permutations(kinds):
                place = {kind: at for at, kind in enumerate(order)}
                if not any(place[a] < place[b] and place[d] < place[c] for a, b, c, d in fours):
                    told = order
                    break
            self.assertEqual(fine_order(book), told, book.text)

    def test_edges(self):
        self.assertEqual((fine_order(Book(())), how_many_fine(Book(())), bad_four(Book(()), ())), ((), 1, None))
        for book in (Book(("a",)), Book.of("a; a-a")):
            self.assertEqual((fine_order(book), how_many_fine(book), bad_four(book, ("a",))), (("a",), 1, None))
        own = Book.of("a b c d; a-a a-b b-b b-c c-d d-d")
        self.assertEqual(bad_four(own, ("a", "d", "b", "c")), ("a", "b", "c", "d"))
        self.assertEqual((how_many_fine(own), how_many_fine(PENT)), (18, 0))
        self.assertEqual(how_many_fine(Book(("a", "b", "c", "d", "e", "f"))), 720)

    def test_lists_and_names(self):
        order = ["a", "d", "b", "c"]
        self.assertEqual(bad_four(order=order, book=CHAIN), ("a", "b", "c", "d"))
        self.assertEqual(order, ["a", "d", "b", "c"])
        self.assertEqual((fine_order(book=CHAIN), how_many_fine(book=CHAIN)), (("a", "b", "c", "d"), 18))

    def test_what_a_fine_order_means(self):
        """First-free never wastes with jobs in this order exactly if there is no bad four; each kind once will do."""
        for book in BOOKS:
            if not book.selfish:
                for order in itertools.permutations(book.kinds):
                    sets = [kinds for size in range(len(order) + 1) for kinds in itertools.combinations(order, size)]
                    wasted = any(len(first_free(book, kinds)) > least_need(book, kinds) for kinds in sets)
                    self.assertIs(wasted, bad_four(book, order) is not None)

    def test_what_it_means_with_selfish_kinds(self):
        source = random.Random(5)
        for book in BOOKS:
            for order in list(itertools.permutations(book.kinds))[:3]:
                if bad_four(book, order) is None:
                    for _ in range(5):
                        kinds = [kind for kind in order for _ in range(source.randint(0, 2))][:9]
                        self.assertEqual(len(first_free(book, kinds)), least_need(book, kinds))

    def test_forty_kinds(self):
        line = Book(NAMES, list(zip(NAMES, NAMES[1:])))
        self.assertIsNone(bad_four(line, NAMES))
        self.assertIsNone(bad_four(line, NAMES[::-1]))
        w, x, y, z = NAMES[35:39]
        order = (*NAMES[:35], w, z, y, x, NAMES[39])
        found = bad_four(line, order)
        self.assertIsNotNone(found)
        self.assertTrue(is_four(line, found))
        for book in [*some_books(NAMES, 3, 7), line.turned()]:
            order = tuple(random.Random(8).sample(NAMES, 40))
            found = bad_four(book, order)
            place = {kind: at for at, kind in enumerate(order)}
            if found is not None:
                self.assertTrue(is_four(book, found))
                self.assertTrue(place[found[0]] < place[found[1]] and place[found[3]] < place[found[2]])
        self.assertIsNone(bad_four(Book(NAMES).turned(), NAMES))


if __name__ == "__main__":
    unittest.main()
