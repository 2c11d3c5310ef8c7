"""The five patterns against a plain look through all tuples of kinds (promises 2, 3 and 4)."""

import itertools
import unittest

from onehostmore.books import Book
from onehostmore.patterns import bent, four, is_bent, is_four, is_pair_and_three, is_paw, is_third, pair_and_three, paw
from onehostmore.patterns import third
from things import STRANGE, all_books, many_kinds, nested, some_books

NAMES = many_kinds(40)


def clash(book, one, other):
    return (one, other) in book.clashes or (other, one) in book.clashes


def unlike(*kinds):
    return len(set(kinds)) == len(kinds)


def peace(book, one, other):
    return not clash(book, one, other)


def told_third(book, thing):
    a, b, c = thing
    if not unlike(a, b) or not unlike(a, c):
        return False
    return peace(book, a, b) and peace(book, a, c) and (
        (b < c and clash(book, b, c)) or (b == c and b in book.selfish))


def told_bent(book, thing):
    x, z, y = thing
    if not unlike(z, x) or not unlike(z, y):
        return False
    return clash(book, z, x) and clash(book, z, y) and (
        (x < y and peace(book, x, y)) or (x == y and x not in book.selfish))


def told_four(book, thing):
    if not unlike(*thing) or not thing[0] < thing[3]:
        return False
    found = [pair for pair in itertools.combinations(thing, 2) if clash(book, *pair)]
    return found == [(thing[0], thing[1]), (thing[1], thing[2]), (thing[2], thing[3])]


def told_paw(book, thing):
    a, b, c, d = thing
    return d not in (a, b, c) and told_third(book, (a, b, c)) and all(clash(book, d, kind) for kind in (a, b, c))


def told_pair_and_three(book, thing):
    p, q, x, z, y = thing
    if p in (x, z, y) or q in (x, z, y):
        return False
    if not ((p < q and clash(book, p, q)) or (p == q and p in book.selfish)):
        return False
    return told_bent(book, (x, z, y)) and all(peace(book, one, other) for one in (p, q) for other in (x, z, y))


PATTERNS = [
    (third, is_third, told_third, 3), (bent, is_bent, told_bent, 3), (four, is_four, told_four, 4),
    (paw, is_paw, told_paw, 4), (pair_and_three, is_pair_and_three, told_pair_and_three, 5),
]


class AgainstAPlainLook(unittest.TestCase):

    def check(self, book, patterns=PATTERNS):
        for least, is_such, told, size in patterns:
            found = []
            for thing in itertools.product(book.kinds, repeat=size):
                right = told(book, thing)
                if right:
                    found.append(thing)
                if is_such(book, thing) is not right:
                    self.fail((book.text, is_such, thing, right))
            self.assertEqual(least(book), found[0] if found else None, book.text)

    def test_all_books_of_three_kinds(self):
        for kinds in ((), ("a",), ("a", "b"), ("a", "b", "c")):
            for book in all_books(kinds):
                self.check(book)

    def test_all_books_of_four_kinds(self):
        for book in all_books(("a", "b", "c", "d")):
            self.check(book, PATTERNS[:4])

    def test_greater_books(self):
        for book in some_books(("a", "b", "c", "d"), 100, 4):
            self.check(book)
        for book in some_books(("a", "ab", "b", "ba", "c"), 60, 5):
            self.check(book)
        for book in some_books(("a", "b", "c", "d", "e", "f"), 12, 6):
            self.check(book)
        for book in some_books(("a", "b", "c", "d", "e", "f", "g"), 30, 7):
            self.check(book, PATTERNS[:4])

    def test_books_with_few_patterns(self):
        # Books that are made beside and against one another have no four, and few of the others.
        small = list(all_books(("a",))) + list(all_books(("a", "b")))
        for one in small:
            for other in some_books(("c", "d", "e"), 6, 8):
                self.check(one.beside(other))
                self.check(one.against(other))


class Ordinary(unittest.TestCase):

    def test_third(self):
        book = Book.of("a b c; b-c")
        self.assertEqual(third(book), ("a", "b", "c"))
        self.assertIs(is_third(book, ("a", "b", "c")), True)
        self.assertIs(is_third(book, ("a", "c", "b")), False)
        self.assertIs(is_third(book, ("b", "a", "c")), False)
        self.assertIs(is_third(book, ("a", "b", "b")), False)
        self.assertIs(is_third(Book.of("a b; b-b"), ("a", "b", "b")), True)
        self.assertIs(is_third(Book.of("a b; b-b"), ("b", "b", "b")), False)

    def test_bent(self):
        book = Book.of("a b c; a-c b-c")
        self.assertEqual(bent(book), ("a", "c", "a"))
        self.assertIs(is_bent(book, ("a", "c", "b")), True)
        self.assertIs(is_bent(book, ("b", "c", "a")), False)
        self.assertIs(is_bent(book, ("b", "c", "b")), True)
        self.assertEqual(bent(Book.of("a b c; a-a a-c b-b b-c c-c")), ("a", "c", "b"))
        self.assertIsNone(bent(Book.of("a b; a-a a-b b-b")))
        self.assertIs(is_bent(Book.of("a b; a-a a-b"), ("a", "b", "a")), False)
        self.assertEqual(bent(Book.of("a b; a-a a-b")), ("b", "a", "b"))

    def test_four(self):
        book = Book.of("a b c d; a-a a-c a-d b-d")
        self.assertEqual(four(book), ("b", "d", "a", "c"))
        self.assertIs(is_four(book, ("b", "d", "a", "c")), True)
        self.assertIs(is_four(book, ("c", "a", "d", "b")), False)
        self.assertIsNone(four(Book.of("a b; a-a a-b b-b")))

    def test_paw(self):
        book = Book.of("a b c d; a-b a-c a-d b-c")
        self.assertEqual(paw(book), ("d", "b", "c", "a"))
        self.assertIs(is_paw(book, ("d", "c", "b", "a")), False)
        self.assertEqual(paw(Book.of("a b c; a-c b-b b-c")), ("a", "b", "b", "c"))
        self.assertIsNone(paw(Book.of("a b c; a-c b-c")))

    def test_pair_and_three(self):
        book = Book.of("a b c d; a-b c-d d-d")
        self.assertEqual(pair_and_three(book), ("a", "b", "c", "d", "c"))
        self.assertIs(is_pair_and_three(book, ("a", "b", "d", "c", "d")), False)
        self.assertIs(is_pair_and_three(book, ("d", "d", "a", "b", "a")), True)
        self.assertIs(is_pair_and_three(book, ("b", "a", "c", "d", "c")), False)
        self.assertEqual(pair_and_three(Book.of("a b c; a-a b-c")), ("a", "a", "b", "c", "b"))
        self.assertIsNone(pair_and_three(Book.of("a b c; b-c")))

    def test_without_kinds_and_with_one(self):
        for book in (Book(()), Book(("a",)), Book.of("a; a-a")):
            for least, is_such, _, size in PATTERNS:
                self.assertIsNone(least(book))
                self.assertIs(is_such(book, ("a",) * size), False)
                self.assertIs(is_such(book, ()), False)

    def test_by_names(self):
        book = Book.of("a b c d p q; a-a a-b b-c c-d")
        for least, is_such, _, _ in PATTERNS:
            self.assertEqual(least(book=book), least(book))
            self.assertIs(is_such(thing=least(book), book=book), least(book) is not None)


class Things(unittest.TestCase):

    def setUp(self):
        # a third, bent, four, paw and pair and three of KINDs that stand in STRANGE are found in these books.
        self.books = [Book.of(text) for text in (
            "-", "a", "a b c; b-c", "a b c; a-b b-c", "a b c d; a-b b-c c-d", "a b c d; a-d b-c b-d c-d",
            "a b c d e; a-b c-d d-e")]

    def test_strange_things(self):
        for book in self.books:
            for thing in STRANGE:
                for _, is_such, _, _ in PATTERNS:
                    self.assertIs(is_such(book, thing), False)

    def test_lists_are_no_patterns(self):
        for book in self.books:
            for least, is_such, _, _ in PATTERNS:
                found = least(book)
                if found is not None:
                    self.assertIs(is_such(book, found), True)
                    self.assertIs(is_such(book, list(found)), False)
                    self.assertIs(is_such(book, (found,)), False)
                    self.assertIs(is_such(book, found[:-1]), False)
                    self.assertIs(is_such(book, found + found[:1]), False)
                    self.assertIs(is_such(book, " ".join(found)), False)
                    self.assertIs(is_such(book, "".join(found)), False)
                    for depth in range(1, 12):
                        self.assertIs(is_such(book, nested(found, depth)), False)

    def test_one_place_changed(self):
        for book in self.books:
            for least, is_such, _, size in PATTERNS:
                found = least(book)
                if found is not None:
                    for at in range(size):
                        for other in (True, False, None, 0, 1, "", "x", "A", found[at] * 2, [found[at]], (found[at],),
                                      Book((found[at],)), nested(found[at], 11), nested(found[at], 11, list)):
                            self.assertIs(is_such(book, (*found[:at], other, *found[at + 1:])), False)

    def test_kinds_of_another_book(self):
        for book in self.books:
            for least, is_such, _, _ in PATTERNS:
                if least(book) is not None:
                    self.assertIs(is_such(Book(("p", "q", "r", "s", "t")), least(book)), False)
                    self.assertIs(is_such(Book(()), least(book)), False)
                    self.assertIs(is_such(book.without(least(book)[1]), least(book)), False)


class Bounds(unittest.TestCase):

    def test_none_in_forty_kinds(self):
        calm = Book(NAMES)
        full = calm.turned()
        self.assertEqual([least(book) for book in (calm, full) for least in (third, bent, four, paw)], [None] * 8)
        halves = Book(NAMES[:20]).turned().beside(Book(NAMES[20:]).turned())
        self.assertEqual([least(halves) for least in (bent, four, paw)], [None] * 3)
        self.assertEqual(third(halves), (NAMES[0], NAMES[20], NAMES[20]))
        self.assertEqual([least(halves.turned()) for least in (third, four, paw)], [None] * 3)
        # Each second kind clashes with all ahead of it: no four, but very many rows of three kinds that begin like one.
        steps = Book((), ())
        for at, kind in enumerate(NAMES):
            steps = steps.against(Book((kind,))) if at & 1 else steps.beside(Book((kind,)))
        self.assertIsNone(four(steps))
        self.assertEqual(paw(steps), (NAMES[2], NAMES[0], NAMES[1], NAMES[3]))

    def test_least_ones_stand_last(self):
        calm, last = Book(NAMES[:36]), NAMES[36:]
        w, x, y, z = last
        book = calm.beside(Book(last, ((w, x), (x, y), (y, z))))
        self.assertEqual((four(book), bent(book), third(book)), (last, (w, x, w), (NAMES[0], w, x)))
        self.assertEqual((four(book.turned()), paw(book)), ((x, z, w, y), None))
        book = calm.beside(Book(last, ((w, z), (x, y), (x, z), (y, z))))
        self.assertEqual((paw(book), four(book)), (last, None))
        for found, is_such in ((last, is_paw), ((NAMES[0], x, y), is_third), ((w, z, x), is_bent)):
            self.assertIs(is_such(book, found), True)
        self.assertIs(is_four(book, last), False)

    def test_twenty_kinds_in_pair_and_three(self):
        kinds = NAMES[:20]
        for book in (Book(kinds), Book(kinds).turned(), Book(kinds[:10]).turned().beside(Book(kinds[10:]).turned()),
                     Book(kinds[:10]).against(Book(kinds[10:])),
                     Book(kinds[:10]).turned().beside(Book(kinds[10:]).turned()).turned()):
            self.assertIsNone(pair_and_three(book))
        p, q, x, z, y = kinds[15:]
        book = Book(kinds[:15]).beside(Book(kinds[15:], ((p, q), (x, x), (x, z), (y, y), (z, y), (z, z))))
        self.assertEqual(pair_and_three(book), (p, q, x, z, y))
        self.assertIs(is_pair_and_three(book, (p, q, x, z, y)), True)
        self.assertIs(is_pair_and_three(book, (p, q, y, z, x)), False)
        self.assertIs(is_pair_and_three(book, (q, p, x, z, y)), False)


if __name__ == "__main__":
    unittest.main()
