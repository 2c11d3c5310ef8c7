"""Growing crowds (promises 2, 3 and 13)."""

import itertools
import random
import unittest

from onehostmore.books import Book
from onehostmore.crowds import need
from onehostmore.errors import NoKind, NoRoom, NoTree
from onehostmore.growth import most_steps, need_at, rises
from onehostmore.trees import has_tree
from things import Refusing, all_books, deep_book, lists_for, many_kinds, some_books

SHOP = Book.of("a b c d; a-a a-b b-b c-c")
CHAIN = Book.of("a b c d; a-b b-c c-d")
NAMES = many_kinds(40)
BIG = 10 ** 40
BOOKS = [book for book in [*all_books(("a", "b")), *some_books(("a", "b", "c"), 30, 1),
                           *some_books(("a", "b", "c", "d"), 30, 2), SHOP] if has_tree(book)]


def some_crowd(source, kinds, most):
    chosen = sorted(source.sample(kinds, source.randint(0, len(kinds))))
    return tuple((kind, source.randint(1, most)) for kind in chosen)


def meant(base, more, number):
    """The CROWD that is meant."""
    found = dict(base)
    for kind, many in more:
        found[kind] = found.get(kind, 0) + number * many
    return tuple(sorted((kind, many) for kind, many in found.items() if many))


def some_cases(seed, many, most):
    source = random.Random(seed)
    for book in BOOKS:
        for _ in range(many):
            yield book, some_crowd(source, book.kinds, most), some_crowd(source, book.kinds, most)


class NeedAt(Refusing):

    def test_against_need(self):
        for book, base, more in some_cases(3, 4, 6):
            for number in (0, 1, 2, 3, 7, BIG):
                self.assertEqual(need_at(book, base, more, number), need(book, meant(base, more, number)))

    def test_edges(self):
        self.assertEqual([need_at(SHOP, (), (), number) for number in (0, 1, BIG)], [0, 0, 0])
        self.assertEqual(need_at(Book(()), (), (), 5), 0)
        self.assertEqual([need_at(SHOP, (), (("d", 7),), number) for number in range(3)], [0, 1, 1])
        self.assertEqual(need_at(SHOP, (("a", BIG),), (("a", BIG), ("b", BIG)), BIG), BIG + 2 * BIG * BIG)
        self.assertEqual(need_at(number=2, more=[["a", 1]], base=[["a", 2]], book=SHOP), 4)

    def test_errors(self):
        for act in (need_at, rises, most_steps):
            rest = () if act is rises else (0,)
            self.refuses(NoKind, {"kind": "b"}, act, Book(("a",)), (("a", 1), ("c", 1)), (("b", 1), ("x", 1)), *rest)
            self.refuses(NoKind, {"kind": "c"}, act, Book(("a",)), (("c", 1),), (("d", 1),), *rest)
            self.refuses(NoKind, {"kind": "x"}, act, CHAIN, (), (("x", 1),), *rest)
            self.refuses(NoTree, {"four": ("a", "b", "c", "d")}, act, CHAIN, (), (), *rest)
            self.refuses(NoTree, {"four": ("a", "b", "c", "d")}, act, CHAIN, (("a", 1),), (("b", 1),), *rest)
        self.refuses(NoTree, {"four": ("a", "b", "c", "d")}, most_steps, CHAIN, (("a", 1), ("b", 1)), (), 0)
        self.refuses(NoKind, {"kind": "e"}, most_steps, CHAIN, (("a", 1), ("e", 1)), (), 0)


class Rises(unittest.TestCase):

    def told(self, book, base, more, far):
        """The pieces, by a look at all numbers, if the last one begins well ahead of far."""
        needs = [need(book, meant(base, more, number)) for number in range(far + 2)]
        found, first = [], 0
        while True:
            rise = needs[first + 1] - needs[first]
            found.append((first, needs[first], rise))
            behind = [at for at in range(first, far) if needs[at] != needs[first] + (at - first) * rise]
            if not behind:
                return tuple(found)
            first = behind[0]

    def test_against_all_numbers(self):
        pieces = {}
        for book, base, more in some_cases(4, 6, 9):
            found = rises(book, base, more)
            self.assertEqual(found, self.told(book, base, more, 80), (book.text, base, more))
            pieces[len(found)] = True
        self.assertEqual(sorted(pieces), [1, 2])

    def test_many_pieces(self):
        """Kinds beside one another, each with fewer jobs at first, and more of them each time."""
        source = random.Random(5)
        for many in range(2, 9):
            kinds = NAMES[:many]
            book = Book(kinds, list(zip(kinds, kinds)))
            for _ in range(10):
                base = tuple((kind, source.randint(1, 40)) for kind in kinds)
                more = tuple((kind, source.randint(1, 12)) for kind in kinds)
                self.assertEqual(rises(book, base, more), self.told(book, base, more, 60))
        slopes = Book(NAMES[:8], list(zip(NAMES, NAMES[:8])))
        base = tuple((NAMES[at], 1000 - at * at * 10) for at in range(8))
        more = tuple((NAMES[at], 1 + at * 9) for at in range(8))
        self.assertEqual(rises(slopes, base, more), self.told(slopes, base, more, 200))
        self.assertGreater(len(rises(slopes, base, more)), 5)

    def test_kinds_that_are_not_there_at_once(self):
        free = Book(("a", "b", "c"))
        own = Book.of("a b c; a-b a-c b-b b-c")
        for book, base, more in itertools.product((free, own), ((), (("a", 1),), (("b", 3),)), (
                (), (("a", 2),), (("b", 1),), (("a", 1), ("b", 1), ("c", 5)))):
            self.assertEqual(rises(book, base, more), self.told(book, base, more, 40), (book.text, base, more))
        # From 0 to 1 the need rises by 2, from 1 to 2 by 1, and so on.
        self.assertEqual(rises(Book.of("a b; a-b b-b"), (), (("a", 1), ("b", 1))), ((0, 0, 2), (2, 3, 1)))
        self.assertEqual(rises(Book(()), (), ()), ((0, 0, 0),))
        self.assertEqual(rises(more=[["d", 7]], base=[], book=SHOP), ((0, 0, 1), (2, 1, 0)))

    def test_great_numbers(self):
        source = random.Random(6)
        books = [SHOP, deep_book(NAMES, 1), deep_book(NAMES, 2), deep_book(NAMES, 3), Book(NAMES, list(zip(NAMES, NAMES)))]
        for book in books:
            for most in (10 ** 5, BIG):
                base = tuple((kind, source.randint(1, most)) for kind in book.kinds)
                more = tuple((kind, source.randint(1, source.choice((5, 1000, most)))) for kind in book.kinds)
                self.check_ends(book, base, more)
        slopes = Book(NAMES, list(zip(NAMES, NAMES)))
        base = tuple((kind, BIG - at * at * 10 ** 30) for at, kind in enumerate(NAMES))
        more = tuple((kind, 1 + at * 10 ** 20) for at, kind in enumerate(NAMES))
        self.check_ends(slopes, base, more)
        self.assertGreaterEqual(len(rises(slopes, base, more)), 40)
        base, more = (("a", BIG), ("b", 1)), (("b", BIG - 1), ("c", BIG))
        self.check_ends(SHOP, base, more)
        self.assertEqual(rises(SHOP, (("c", BIG),), (("a", 1),)), ((0, BIG, 0), (BIG + 1, BIG + 1, 1)))
        self.assertEqual(rises(SHOP, (("c", BIG),), (("a", 1),))[-1][0], BIG + 1)

    def test_without_jobs_at_first(self):
        wide = Book(NAMES[1:]).turned()
        wide = Book(wide.kinds, [pair for pair in wide.clashes if pair[0] != pair[1]]).beside(Book.of("aa; aa-aa"))
        every = tuple((kind, 1) for kind in NAMES)
        self.assertEqual(rises(wide, (), every), ((0, 0, 39), (2, 39, 0), (40, 40, 1)))
        self.assertEqual([most_steps(wide, (), every, hosts) for hosts in (0, 38, 39, 40, 45, BIG)], [0, 0, 39, 40, 45, BIG])

    def check_ends(self, book, base, more):
        """Each piece is even at its ends and in its midst, and goes no further."""
        found = rises(book, base, more)
        self.assertEqual(found[0][0], 0)
        for at, (first, low, rise) in enumerate(found):
            behind = found[at + 1][0] if at + 1 < len(found) else first + 4 * BIG
            self.assertGreater(behind, first + 1)
            for number in (first, first + 1, (first + behind) // 2, behind - 1):
                self.assertEqual(need_at(book, base, more, number), low + (number - first) * rise)
                self.assertEqual(need_at(book, base, more, number), need(book, meant(base, more, number)))
            if at + 1 < len(found):
                self.assertNotEqual(need_at(book, base, more, behind), low + (behind - first) * rise)


class MostSteps(Refusing):

    def test_against_need_at(self):
        for book, base, more in some_cases(7, 3, 5):
            needs = [need(book, meant(base, more, number)) for number in range(60)]
            for hosts in range(0, 20, 3):
                fine = [number for number in range(60) if needs[number] <= hosts]
                if not fine:
                    self.refuses(NoRoom, {"many": hosts}, most_steps, book, base, more, hosts)
                else:
                    told = None if len(fine) == 60 else fine[-1]
                    self.assertEqual(most_steps(book, base, more, hosts), told, (book.text, base, more, hosts))

    def test_edges(self):
        self.assertIsNone(most_steps(SHOP, (), (), 0))
        self.assertIsNone(most_steps(Book(()), (), (), 0))
        self.assertEqual(most_steps(SHOP, (), (("d", 1),), 0), 0)
        self.assertIsNone(most_steps(SHOP, (), (("d", 1),), 1))
        self.refuses(NoRoom, {"many": 0}, most_steps, SHOP, (("d", 1),), (), 0)
        self.refuses(NoRoom, {"many": 4}, most_steps, SHOP, (("a", 5),), (), 4)
        self.assertEqual(most_steps(hosts=9, more=[["b", 2]], base=[["a", 2]], book=SHOP), 3)

    def test_great_numbers(self):
        self.assertEqual(most_steps(SHOP, (("a", 2), ("c", 10)), (("a", 1), ("b", 2)), BIG), (BIG - 2) // 3)
        self.assertEqual(most_steps(SHOP, (), (("a", 1),), BIG), BIG)
        self.assertEqual(most_steps(SHOP, (("a", BIG),), (("a", BIG),), BIG), 0)
        self.refuses(NoRoom, {"many": BIG - 1}, most_steps, SHOP, (("a", BIG),), (), BIG - 1)
        source = random.Random(8)
        for step in (1, 2, 3):
            book = deep_book(NAMES, step)
            base = tuple((kind, source.randint(1, 10 ** 6)) for kind in NAMES)
            more = tuple((kind, source.randint(1, 10 ** 6)) for kind in NAMES)
            number = most_steps(book, base, more, BIG)
            self.assertLessEqual(need(book, meant(base, more, number)), BIG)
            self.assertGreater(need(book, meant(base, more, number + 1)), BIG)

    def test_lists(self):
        for book, base, more in some_cases(9, 1, 5):
            one, other = lists_for(base), lists_for(more)
            self.assertEqual(rises(book, one, other), rises(book, base, more))
            self.assertEqual(need_at(book, one, other, 3), need_at(book, base, more, 3))
            self.assertEqual(most_steps(book, one, other, 50), most_steps(book, base, more, 50))
            self.assertEqual((one, other), (lists_for(base), lists_for(more)))


if __name__ == "__main__":
    unittest.main()
