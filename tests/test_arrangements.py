"""Who stands where (promises 2, 3 and 11)."""

import itertools
import math
import random
import unittest

from onehostmore.arrangements import (
    all_filled, filled, hosts_range, how_many_lazy, how_many_rows, is_arrangement, nth_lazy, nth_row, opening, put_first,
    rank_row, stray, stuck)
from onehostmore.books import Book
from onehostmore.errors import NoKind, NoNumber, NotLed
from models import clash_by, fair, least_need, partings
from test_most import first_free
from things import STRANGE, Refusing, all_books, bent_things, lists_for, many_kinds, nested, some_books

PAIR = Book.of("a b; a-b")
TWO = Book.of("p q x y z; p-q x-z y-z")
CHAIN = Book.of("a b c d; a-b b-c c-d")
OWN = Book.of("a b c; a-a a-b b-b")
NAMES = many_kinds(12)
BOOKS = [*list(all_books(("a", "b")))[::2], *some_books(("a", "b", "c"), 12, 1), *some_books(("a", "b", "c", "d"), 12, 2),
         CHAIN, OWN, PAIR]


def told_filled(book, kinds):
    """What first-free makes of jobs of these KINDs."""
    return tuple(tuple(sorted(host)) for host in first_free(book, kinds))


def told_lazy(book, kinds):
    """All rows of pairs (KIND, host) that lazy keepers make of jobs of these KINDs, with what stands there then."""
    clash = clash_by(book)
    ways = [((), ())]
    for kind in kinds:
        following = []
        for row, hosts in ways:
            free = [at for at, host in enumerate(hosts) if not any(clash(kind, other) for other in host)]
            for at in free or [len(hosts)]:
                after = [list(host) for host in hosts] + ([[]] if at == len(hosts) else [])
                after[at].append(kind)
                following.append(((*row, (kind, at)), after))
        ways = following
    return [(row, tuple(tuple(sorted(host)) for host in hosts)) for row, hosts in ways]


def orders(kinds):
    """All different orders of these jobs, ascending."""
    return sorted(set(itertools.permutations(kinds)))


def all_ways(book, kinds):
    """All ARRANGEMENTs of jobs of these KINDs, however they came about, with the hosts in each order."""
    found = set()
    for hosts in partings(list(kinds), clash_by(book)):
        found.update(itertools.permutations([tuple(sorted(host)) for host in hosts]))
    return sorted(found)


def crowds(book, most, source, many):
    """Some tuples of KINDs of the book, in order."""
    yield ()
    for _ in range(many if len(book) else 0):
        yield tuple(sorted(source.choices(book.kinds, k=source.randint(1, most))))


class IsArrangement(unittest.TestCase):

    def told(self, book, thing):
        return type(thing) is tuple and all(
            type(host) is tuple and host and all(type(kind) is str and kind in book.kinds for kind in host)
            and list(host) == sorted(host) and fair(clash_by(book), host) for host in thing)

    def test_against_all_tuples(self):
        for book in BOOKS:
            hosts = [host for size in range(4) for host in itertools.product(book.kinds, repeat=size)]
            for host in hosts:
                self.assertIs(is_arrangement(book, (host,)), self.told(book, (host,)), (book.text, host))
            for pair in itertools.product(hosts[:40:3], repeat=2):
                self.assertIs(is_arrangement(book, pair), self.told(book, pair), (book.text, pair))

    def test_bent_in_one_place(self):
        for thing in ((("a", "a", "d"), ("b", "b"), ("c",)), (("a", "c"), ("a", "c"), ("b", "d")), (("d",),)):
            self.assertIs(is_arrangement(CHAIN, thing), True)
            for bent in bent_things(thing, ("a", "b", "x", "", "ad", 0, True, None, (), ("c",), ("a", "d"), Book(("a",)))):
                self.assertIs(is_arrangement(CHAIN, bent), self.told(CHAIN, bent), bent)

    def test_strange_things(self):
        for book in (Book(()), Book(("x",)), CHAIN):
            for thing in STRANGE:
                self.assertIs(is_arrangement(book, thing), self.told(book, thing), thing)
            for depth in range(1, 11):
                self.assertIs(is_arrangement(book, nested((("a",),), depth)), False)
            self.assertIs(is_arrangement(book, ()), True)
        self.assertIs(is_arrangement(CHAIN, [("a",)]), False)
        self.assertIs(is_arrangement(CHAIN, (["a"],)), False)

    def test_selfish_kinds_and_bounds(self):
        self.assertIs(is_arrangement(OWN, (("a",), ("a",), ("c", "c"))), True)
        self.assertIs(is_arrangement(OWN, (("a", "a"),)), False)
        self.assertIs(is_arrangement(CHAIN, (("a",) * 100, ("b",) * 50)), True)
        self.assertIs(is_arrangement(CHAIN, (("a",) * 5000 + ("c",) * 5000,)), True)
        self.assertIs(is_arrangement(CHAIN, (("a",) * 5000 + ("b",),)), False)
        self.assertIs(is_arrangement(Book(NAMES), tuple((kind,) * 6 for kind in NAMES)), True)
        self.assertIs(is_arrangement(thing=(("a",),), book=PAIR), True)


class Filled(Refusing):

    def test_against_a_plain_placing(self):
        for book in BOOKS:
            for kinds in itertools.product(book.kinds, repeat=4):
                told = told_filled(book, kinds)
                self.assertEqual(filled(book, kinds), told)
                self.assertIs(is_arrangement(book, told), True)
                self.assertEqual(put_first(book, told_filled(book, kinds[:3]), kinds[3]), told)

    def test_on_hosts_that_first_free_did_not_fill(self):
        self.assertEqual(put_first(CHAIN, (("b",), ("a",), ("c", "c")), "d"), (("b", "d"), ("a",), ("c", "c")))
        self.assertEqual(put_first(CHAIN, (("c",), ("a",), ("d",)), "b"), (("c",), ("a",), ("b", "d")))
        self.assertEqual(put_first(CHAIN, (("a",), ("c",)), "b"), (("a",), ("c",), ("b",)))
        self.assertEqual(put_first(CHAIN, (("b", "d"),), "b"), (("b", "b", "d"),))

    def test_edges(self):
        self.assertEqual((filled(Book(()), ()), filled(CHAIN, ()), put_first(CHAIN, (), "a")), ((), (), (("a",),)))
        self.assertEqual(filled(OWN, ("a", "a", "b", "c", "a")), (("a", "c"), ("a",), ("b",), ("a",)))
        self.assertEqual(filled(kinds=["a", "b"], book=PAIR), (("a",), ("b",)))
        self.assertEqual(put_first(kind="a", arrangement=[["b"], ["a"]], book=PAIR), (("b",), ("a", "a")))

    def test_no_kind(self):
        self.refuses(NoKind, {"kind": "x"}, filled, PAIR, ("a", "x", "y"))
        self.refuses(NoKind, {"kind": "y"}, filled, PAIR, ["y", "a", "x"])
        self.refuses(NoKind, {"kind": "a"}, filled, Book(()), ("a",))
        self.refuses(NoKind, {"kind": "c"}, put_first, PAIR, (("a",),), "c")
        self.refuses(NoKind, {"kind": "c"}, put_first, PAIR, (), "c")

    def test_the_bound(self):
        source = random.Random(3)
        for book in some_books(NAMES, 6, 4):
            kinds = source.choices(NAMES, k=60)
            self.assertEqual(filled(book, kinds), told_filled(book, kinds))


class Rows(Refusing):

    def check(self, book, arrangement):
        kinds = sorted(kind for host in arrangement for kind in host)
        leading = [row for row in orders(kinds) if told_filled(book, row) == arrangement]
        self.assertEqual(how_many_rows(book, arrangement), len(leading), (book.text, arrangement))
        for number, row in enumerate(leading):
            self.assertEqual(nth_row(book, arrangement, number), row)
            self.assertEqual(rank_row(book, arrangement, row), number)
        for number in (-1, len(leading), len(leading) + 1, 10 ** 40, -10 ** 40):
            self.refuses(NoNumber, {"number": number}, nth_row, book, arrangement, number)
        for row in orders(kinds)[:30]:
            if row not in leading:
                self.refuses(NotLed, {}, rank_row, book, arrangement, row)
        self.assertEqual(stray(book, arrangement) is None, bool(leading))
        return len(leading)

    def check_lazy(self, book, arrangement):
        kinds = sorted(kind for host in arrangement for kind in host)
        found = sorted({row for order in orders(kinds) for row, hosts in told_lazy(book, order) if hosts == arrangement})
        self.assertEqual(how_many_lazy(book, arrangement), len(found), (book.text, arrangement))
        for number, row in enumerate(found):
            self.assertEqual(nth_lazy(book, arrangement, number), row)
        for number in (-1, len(found), 10 ** 40):
            self.refuses(NoNumber, {"number": number}, nth_lazy, book, arrangement, number)
        return len(found)

    def told_stray(self, book, arrangement):
        clash = clash_by(book)
        return min([(host, kind, ahead) for host, kinds in enumerate(arrangement) for kind in kinds
                    for ahead in range(host) if not any(clash(kind, other) for other in arrangement[ahead])], default=None)

    def test_against_all_orders(self):
        source = random.Random(5)
        rows = lazy = none = 0
        for book in [*BOOKS[::2], CHAIN, OWN]:
            for kinds in crowds(book, 5, source, 5):
                for arrangement in all_ways(book, kinds)[:40]:
                    self.assertEqual(stray(book, arrangement), self.told_stray(book, arrangement))
                    many = self.check(book, arrangement)
                    more = self.check_lazy(book, arrangement)
                    self.assertLessEqual(many, more)
                    rows, lazy, none = rows + (many > 1), lazy + (more > many), none + (more == 0)
        self.assertGreater(min(rows, lazy, none), 50)

    def test_two(self):
        source = random.Random(6)
        ways = all_ways(TWO, ("p", "q", "x", "y", "z"))
        for arrangement in source.sample(ways, 60):
            self.check(TWO, arrangement)
            self.check_lazy(TWO, arrangement)

    def test_edges(self):
        for book in (Book(()), CHAIN):
            self.assertEqual((how_many_rows(book, ()), nth_row(book, (), 0), rank_row(book, (), ())), (1, (), 0))
            self.assertEqual((how_many_lazy(book, ()), nth_lazy(book, (), 0), stray(book, ())), (1, (), None))
            for number in (-1, 1):
                self.refuses(NoNumber, {"number": number}, nth_row, book, (), number)
                self.refuses(NoNumber, {"number": number}, nth_lazy, book, (), number)
        self.assertEqual((how_many_rows(PAIR, (("a",) * 5,)), nth_row(PAIR, (("a",) * 5,), 0)), (1, ("a",) * 5))
        self.assertEqual(how_many_lazy(OWN, (("a",), ("a",))), 1)

    def test_not_led(self):
        both = (("a", "a"), ("b", "b"))
        for kinds in ((), ("a",), ("a", "a", "b"), ("b", "a", "b", "a"), ("a", "a", "b", "b", "b"), ("a", "a", "b", "x"),
                      ("x",), ("a", "a", "b", "b", "x"), ("a",) * 60):
            self.refuses(NotLed, {}, rank_row, PAIR, both, kinds)
            self.refuses(NotLed, {}, rank_row, PAIR, lists_for(both), list(kinds))
        self.refuses(NotLed, {}, rank_row, PAIR, (("b",), ("a",)), ("a", "b"))
        self.refuses(NotLed, {}, rank_row, Book(()), (), ("a",))
        self.assertEqual(rank_row(kinds=["a", "b", "a", "b"], arrangement=lists_for(both), book=PAIR), 1)

    def test_the_bound(self):
        """Sixty jobs, and the product of all numbers, one more each, just below 3000."""
        apart = Book.of("a b; a-b")
        wide = (("a",) * 30, ("b",) * 30)
        many = how_many_rows(apart, wide)
        # A row begins with a; behind it the others come in any order.
        self.assertEqual(many, 118264581564861424 // 2)
        self.assertEqual(nth_row(apart, wide, 0), ("a",) * 30 + ("b",) * 30)
        last = nth_row(apart, wide, many - 1)
        self.assertEqual(last, ("a",) + ("b",) * 30 + ("a",) * 29)
        self.assertEqual(rank_row(apart, wide, last), many - 1)
        for number in (1, many // 2, many // 3):
            self.assertEqual(rank_row(apart, wide, nth_row(apart, wide, number)), number)
        self.assertEqual(how_many_lazy(apart, wide), many)
        self.refuses(NoNumber, {"number": many}, nth_row, apart, wide, many)
        three = (("a",) * 13 + ("b",) * 13 + ("c",) * 14,)
        many = math.factorial(40) // (math.factorial(13) ** 2 * math.factorial(14))
        peaceful = Book(("a", "b", "c"))
        self.assertEqual((how_many_rows(peaceful, three), how_many_lazy(peaceful, three)), (many, many))
        for number in (0, 1, many // 7, many - 1):
            self.assertEqual(rank_row(peaceful, three, nth_row(peaceful, three, number)), number)
        all_clash = Book(NAMES[:11]).turned()
        single = tuple((kind,) for kind in NAMES[:11])
        self.assertEqual((how_many_rows(all_clash, single), how_many_lazy(all_clash, single)), (1, 1))
        peace = (NAMES[:11],)
        free = Book(NAMES[:11])
        self.assertEqual((how_many_rows(free, peace), how_many_lazy(free, peace)), (39916800, 39916800))
        self.assertEqual(nth_row(free, peace, 39916799), NAMES[:11][::-1])
        self.assertEqual(nth_lazy(free, peace, 39916799), tuple((kind, 0) for kind in NAMES[:11][::-1]))


class Stuck(unittest.TestCase):

    def told(self, book, arrangement, source):
        """The hosts that are left, which of several is taken away being drawn."""
        clash = clash_by(book)
        left = set(range(len(arrangement)))
        while True:
            free = [at for at in left if any(all(any(clash(kind, on) for on in arrangement[other])
                                                 for other in left - {at}) for kind in arrangement[at])]
            if not free:
                return tuple(sorted(left))
            left.remove(source.choice(free))

    def test_against_the_words(self):
        source = random.Random(7)
        none = some = 0
        for book in [*BOOKS, TWO, *some_books(("a", "b", "c", "d", "e"), 6, 8)]:
            for kinds in crowds(book, 6, source, 6):
                ways = all_ways(book, kinds)
                for arrangement in source.sample(ways, min(12, len(ways))):
                    left = stuck(book, arrangement)
                    for _ in range(3):
                        self.assertEqual(left, self.told(book, arrangement, source), (book.text, arrangement))
                    order = opening(book, arrangement)
                    self.assertEqual(order is None, left != ())
                    if order is not None:
                        self.assertIs(type(order), tuple)
                        self.assertEqual(sorted(order), list(range(len(arrangement))))
                        none += 1
                    some += left != ()
        self.assertGreater(min(none, some), 50)

    def test_opening_has_a_lazy_row(self):
        source = random.Random(9)
        for book in [*BOOKS[::2], CHAIN, OWN, TWO]:
            for kinds in crowds(book, 5, source, 4):
                for arrangement in all_ways(book, kinds)[:25]:
                    order = opening(book, arrangement)
                    found = [turned for turned in itertools.permutations(range(len(arrangement)))
                             if how_many_lazy(book, tuple(arrangement[at] for at in turned))]
                    self.assertEqual(order in found, order is not None, (book.text, arrangement))
                    self.assertEqual(order is None, not found)

    def test_edges(self):
        self.assertEqual((stuck(CHAIN, ()), opening(CHAIN, ()), opening(Book(()), ())), ((), (), ()))
        self.assertEqual((stuck(CHAIN, (("a",),)), opening(CHAIN, (("a", "c"),))), ((), (0,)))
        self.assertEqual((stuck(CHAIN, (("a",), ("c",))), opening(CHAIN, (("a",), ("c",)))), ((0, 1), None))
        self.assertEqual((stuck(arrangement=[["a"], ["c"], ["b"]], book=CHAIN), opening(CHAIN, [["b"], ["a"]])),
                         ((0, 1), (1, 0)))

    def test_sixty_hosts(self):
        own = Book(NAMES).turned()
        hosts = tuple((NAMES[at % 12],) for at in range(60))
        self.assertEqual(stuck(own, hosts), ())
        self.assertEqual(sorted(opening(own, hosts)), list(range(60)))
        free = Book(NAMES)
        self.assertEqual((stuck(free, hosts), opening(free, hosts)), (tuple(range(60)), None))


class AllFilled(Refusing):

    def check(self, book, kinds):
        told = sorted({told_filled(book, order) for order in set(itertools.permutations(kinds))})
        found = all_filled(book, kinds)
        self.assertEqual(found, told, (book.text, kinds))
        self.assertIs(type(found), list)
        numbers = [len(arrangement) for arrangement in told]
        self.assertEqual(hosts_range(book, kinds), (min(numbers), max(numbers)), (book.text, kinds))
        self.assertIs(type(hosts_range(book, kinds)), tuple)
        self.assertEqual(min(numbers), least_need(book, kinds))

    def test_against_all_orders(self):
        source = random.Random(10)
        for book in [*BOOKS, TWO, *some_books(("a", "b", "c", "d", "e", "f"), 12, 11)]:
            for kinds in crowds(book, 6, source, 6):
                self.check(book, tuple(source.sample(kinds, len(kinds))))

    def test_edges(self):
        for book in (Book(()), CHAIN):
            self.assertEqual((all_filled(book, ()), hosts_range(book, ())), ([()], (0, 0)))
        self.assertEqual((all_filled(CHAIN, ("b",)), hosts_range(CHAIN, ("b",))), ([(("b",),)], (1, 1)))
        self.assertEqual((all_filled(OWN, ["a", "a"]), hosts_range(OWN, ["a", "a"])), ([(("a",), ("a",))], (2, 2)))
        self.assertEqual(hosts_range(kinds=["a", "b", "c", "d"], book=CHAIN), (2, 3))
        found = all_filled(kinds=["a", "d", "b"], book=CHAIN)
        self.assertEqual(found, [(("a", "d"), ("b",)), (("b", "d"), ("a",))])
        found.clear()
        self.assertEqual(len(all_filled(CHAIN, ("a", "b", "d"))), 2)

    def test_no_kind(self):
        for act in (all_filled, hosts_range):
            self.refuses(NoKind, {"kind": "y"}, act, PAIR, ("a", "y", "x"))
            self.refuses(NoKind, {"kind": "x"}, act, Book(()), ["x"])

    def test_nine_kinds(self):
        kinds = NAMES[:9]
        free, own = Book(kinds), Book(kinds).turned()
        self.assertEqual((all_filled(free, kinds), hosts_range(free, kinds)), ([(kinds,)], (1, 1)))
        found = all_filled(own, kinds)
        self.assertEqual((len(found), found[0], hosts_range(own, kinds)),
                         (362880, tuple((kind,) for kind in kinds), (9, 9)))
        self.assertEqual((len(all_filled(own, kinds[:1] * 9)), hosts_range(own, kinds[:1] * 9)), (1, (9, 9)))
        source = random.Random(12)
        for book in some_books(kinds, 6, 13):
            found = all_filled(book, kinds)
            self.assertEqual(found, sorted(set(found)))
            for _ in range(40):
                self.assertIn(told_filled(book, source.sample(kinds, 9)), found)
            for arrangement in source.sample(found, min(30, len(found))):
                self.assertEqual(filled(book, [kind for host in arrangement for kind in host]), arrangement)
            numbers = [len(arrangement) for arrangement in found]
            self.assertEqual(hosts_range(book, kinds), (min(numbers), max(numbers)))


if __name__ == "__main__":
    unittest.main()
