"""CROWDs: what they need, lots, placings, room; ROWs and the CROWDs along them (promises 2, 3 and 6)."""

import collections
import itertools
import random
import unittest

from onehostmore.books import Book
from onehostmore.crowds import (
    crowd_of, crowds_along, hosts_in, is_crowd, is_lot, is_placing, is_row, jobs_in, lot, need, needs, peaks, placing,
    room, sets_by_need, there, together, weighty)
from onehostmore.errors import NoKind, NoTree
from onehostmore.patterns import four
from onehostmore.trees import tree_of
from models import clash_by, fair, jobs_behind, least_need, next_deeds, partings
from things import STRANGE, Refusing, all_books, bent_things, deep_book, lists_for, many_kinds, nested, some_books

SMALL = [book for kinds in ("", "a", "ab", "abc") for book in all_books(tuple(kinds))]
GREATER = [book for many in (4, 5, 6) for book in some_books(tuple("bdfhjl"[:many]), 25, many)]
CHAIN = Book.of("a b c d; a-b b-c c-d")
PORTS = Book.of("db log web; db-db db-log")
RING = Book.of("a b c d e; a-b a-e b-c c-d d-e")
NAMES = many_kinds(40)
GREAT = 10 ** 40


def small_crowds(book, most):
    """All CROWDs of KINDs of the book with numbers up to most."""
    for numbers in itertools.product(range(most + 1), repeat=len(book)):
        yield tuple((kind, number) for kind, number in zip(book.kinds, numbers) if number)


def some_crowds(book, jobs, many, seed):
    source = random.Random(seed)
    for _ in range(many):
        yield told_crowd(source.choice(book.kinds) for _ in range(source.randint(1, jobs)))


def told_crowd(kinds):
    return tuple(sorted(collections.Counter(kinds).items()))


def jobs_of(crowd):
    return [kind for kind, number in crowd for _ in range(number)]


def told_need(book, crowd):
    return least_need(book, jobs_of(crowd))


def by_tree(part, numbers):
    """The need of a crowd by the guarantee."""
    if part[0] == "one":
        return numbers[part[1]] if part[2] else min(1, numbers[part[1]])
    found = [by_tree(below, numbers) for below in part[1:]]
    return max(found) if part[0] == "side" else sum(found)


CASES = [(book, crowd) for book in SMALL for crowd in small_crowds(book, 2)]
CASES += [(book, crowd) for at, book in enumerate(GREATER) for crowd in some_crowds(book, 7, 6, at)]
CASES += [(book, crowd) for book in (CHAIN, RING) for crowd in some_crowds(book, 8, 15, 1)]
IN_TREE = [(book, crowd) for book, crowd in CASES if four(book.only([kind for kind, _ in crowd])) is None]


class Crowds(Refusing):

    def test_crowd_of(self):
        for kinds in ((), ("a",), ("b", "a", "b"), ("ab", "b", "a", "ab", "ab")):
            for order in set(itertools.permutations(kinds)):
                self.assertEqual(crowd_of(order), told_crowd(kinds))
                self.assertEqual(crowd_of(list(order)), told_crowd(kinds))
                self.assertEqual(jobs_in(crowd_of(order)), len(kinds))

    def test_together(self):
        for one in small_crowds(Book(("a", "b", "c")), 2):
            for other in small_crowds(Book(("b", "c", "d")), 2):
                self.assertEqual(together(one, other), told_crowd(jobs_of(one) + jobs_of(other)))
        self.assertEqual(together((("b", GREAT),), (("a", 1), ("b", GREAT))), (("a", 1), ("b", 2 * GREAT)))
        self.assertEqual(together((), ()), ())
        self.assertEqual(jobs_in((("a", GREAT), ("b", GREAT))), 2 * GREAT)
        self.assertEqual(jobs_in(()), 0)

    def test_is_crowd(self):
        book = Book.of("a b ccccccccc; a-b")
        for thing in ((), (("a", 1),), (("a", 1), ("b", 2)), (("b", GREAT), ("ccccccccc", 10 ** 60)),
                      (("a", 3), ("b", 1), ("ccccccccc", 9))):
            self.assertIs(is_crowd(book, thing), True, thing)
        for thing in ((("a", 0),), (("a", -1),), (("a", True),), (("a", "1"),), (("a", None),), (("a",),), (("a", 1, 1),),
                      ("a", 1), [("a", 1)], (["a", 1],), (("b", 1), ("a", 1)), (("a", 1), ("a", 1)), (("a", 1), ("a", 2)),
                      (("x", 1),), (("a", 1), ("x", 1)), (("A", 1),), ((1, 1),), ((None, 1),), ((("a",), 1),), ("a1",),
                      (("a", 1), "b2"), (("a", 1), None), {}, ((Book(("a",)), 1),), (("a", Book(())),), (("", 1),)):
            self.assertIs(is_crowd(book, thing), False, thing)
        for thing in STRANGE:
            self.assertIs(is_crowd(book, thing), thing == (), thing)
        for depth in range(1, 12):
            self.assertIs(is_crowd(book, nested((("a", 1),), depth)), False)
        self.assertIs(is_crowd(Book(()), ()), True)
        self.assertIs(is_crowd(Book(()), (("a", 1),)), False)

    def test_is_crowd_bent(self):
        book = Book(("a", "b", "c"))

        def told(thing):
            return type(thing) is tuple and all(
                type(pair) is tuple and len(pair) == 2 and type(pair[0]) is str and pair[0] in ("a", "b", "c")
                and type(pair[1]) is int and pair[1] > 0 for pair in thing) and [
                    pair[0] for pair in thing] == sorted({pair[0] for pair in thing})

        for crowd in small_crowds(book, 2):
            self.assertIs(is_crowd(book, crowd), True)
            for thing in bent_things(crowd, ("a", "b", "d", "", 0, 1, 7, -1, True, None, ("c", 1), ())):
                self.assertIs(is_crowd(book, thing), told(thing), thing)


class Needs(Refusing):

    def test_against_all_ways_to_put_the_jobs(self):
        for book, crowd in CASES:
            self.assertEqual(need(book, crowd), told_need(book, crowd), (book.text, crowd))

    def test_edges(self):
        self.assertEqual(need(Book(()), ()), 0)
        for number in (1, 2, GREAT):
            self.assertEqual(need(Book(("a",)), (("a", number),)), 1)
            self.assertEqual(need(Book.of("a; a-a"), (("a", number),)), number)

    def test_ten_jobs_without_a_tree(self):
        for book in some_books(NAMES[:10], 12, 10):
            self.assertEqual(need(book, tuple((kind, 1) for kind in book.kinds)), least_need(book, book.kinds))
        self.assertEqual(need(RING, crowd_of("abcdeabcde")), 3)
        selfish = Book(RING.kinds, RING.clashes + tuple((kind, kind) for kind in RING.kinds))
        self.assertEqual(need(selfish, crowd_of("abcdeabcde")), 5)
        self.assertEqual(need(CHAIN.against(Book.of("x; x-x")), crowd_of("abcdxxxxxx")), 8)

    def test_great_crowds(self):
        source = random.Random(2)
        for step in (1, 2, 3, 5):
            book = deep_book(NAMES, step)
            tree = tree_of(book)
            for greatest in (2, 50, GREAT):
                crowd = tuple((kind, source.randint(1, greatest)) for kind in NAMES)
                found = need(book, crowd)
                self.assertEqual(found, by_tree(tree, dict(crowd)))
                self.assertTrue(is_lot(book, crowd, lot(book, crowd)))
                self.assertEqual(jobs_in(lot(book, crowd)), found)
                hosts = placing(book, crowd)
                self.assertTrue(is_placing(book, crowd, hosts))
                self.assertEqual(hosts_in(hosts), found)
                self.assertEqual(need(book, lists_for(crowd)), found)

    def test_kinds_with_a_tree_in_a_book_without(self):
        crowd = (("a", GREAT), ("b", GREAT), ("d", 1))
        self.assertEqual(need(CHAIN, crowd), 2)
        self.assertEqual(jobs_in(lot(CHAIN, crowd)), 2)
        self.assertEqual(hosts_in(placing(CHAIN, crowd)), 2)
        self.assertEqual(weighty(CHAIN, crowd), ())
        self.assertIsNone(room(CHAIN, crowd, "a"))
        self.refuses(NoTree, {"four": ("a", "b", "c", "d")}, room, CHAIN, crowd, "c")

    def test_no_kind(self):
        wrong = (("a", 1), ("m", 1), ("x", 2))
        for act, more in ((need, ()), (lot, ()), (is_lot, ((),)), (placing, ()), (is_placing, ((),)), (room, ("q",)),
                          (room, ("a",)), (weighty, ())):
            self.refuses(NoKind, {"kind": "m"}, act, CHAIN, wrong, *more)
            self.refuses(NoKind, {"kind": "a"}, act, PORTS, wrong, *more)
            self.refuses(NoKind, {"kind": "a"}, act, Book(()), lists_for(wrong), *more)
            self.refuses(NoKind, {"kind": "e"}, act, CHAIN, crowd_of("abcde"), *more)


class Lots(Refusing):

    def test_lot(self):
        for book, crowd in IN_TREE:
            found = lot(book, crowd)
            clash = clash_by(book)
            self.assertTrue(is_crowd(book, found))
            self.assertTrue(all(number <= dict(crowd)[kind] for kind, number in found))
            self.assertEqual(jobs_in(found), told_need(book, crowd))
            self.assertTrue(all(clash(one, other) for one, other in itertools.combinations(jobs_of(found), 2)))
            self.assertTrue(is_lot(book, crowd, found))
        self.assertEqual(lot(Book(()), ()), ())

    def test_no_tree(self):
        found = 0
        for book, crowd in CASES:
            kinds = [kind for kind, _ in crowd]
            if four(book.only(kinds)) is not None:
                found += 1
                for act in (lot, placing):
                    self.refuses(NoTree, {"four": four(book.only(kinds))}, act, book, crowd)
        self.assertGreater(found, 15)
        # Not the least four of the book, but that of the kinds of the crowd.
        both = CHAIN.beside(Book.of("p q r s; p-q q-r r-s"))
        self.refuses(NoTree, {"four": ("p", "q", "r", "s")}, lot, both, crowd_of("apqrs"))
        self.refuses(NoTree, {"four": ("p", "q", "r", "s")}, placing, both, crowd_of("apqrs"))

    def test_is_lot_of_all_crowds(self):
        for book, crowd in CASES[::3]:
            clash = clash_by(book)
            least = told_need(book, crowd)
            for thing in small_crowds(book, 3):
                jobs = jobs_of(thing)
                told = (len(jobs) == least and all(number <= dict(crowd).get(kind, 0) for kind, number in thing)
                        and all(clash(one, other) for one, other in itertools.combinations(jobs, 2)))
                self.assertIs(is_lot(book, crowd, thing), told, (book.text, crowd, thing))

    def test_is_lot_near_to_lots(self):
        crowd = (("db", 3), ("log", 2), ("web", 9))
        right = (("db", 3), ("log", 1))
        self.assertIs(is_lot(PORTS, crowd, right), True)
        for thing in bent_things(right, ("db", "web", 1, 3, 4, 0, True, None, ("web", 1), ())):
            self.assertIs(is_lot(PORTS, crowd, thing), repr(thing) == repr(right), thing)
        for thing in STRANGE:
            self.assertIs(is_lot(PORTS, crowd, thing), False)
            self.assertIs(is_lot(PORTS, (), thing), thing == ())
        self.assertIs(is_lot(PORTS, (("web", 5),), (("web", True),)), False)
        self.assertIs(is_lot(PORTS, (("db", GREAT), ("log", 7)), (("db", GREAT), ("log", 1))), True)
        self.assertIs(is_lot(PORTS, (("db", GREAT), ("log", 7)), (("db", GREAT - 1), ("log", 2))), False)
        self.assertIs(is_lot(RING, crowd_of("abcde"), crowd_of("abc")), False)


class Placings(Refusing):

    def test_placing(self):
        for book, crowd in IN_TREE:
            found = placing(book, crowd)
            clash = clash_by(book)
            self.assertEqual(hosts_in(found), told_need(book, crowd))
            self.assertEqual(list(found), sorted(dict(found).items()))
            self.assertEqual(told_crowd(kind for host, many in found for kind in jobs_of(host) * many), crowd)
            for host, many in found:
                self.assertTrue(host and is_crowd(book, host) and type(many) is int and many > 0)
                self.assertTrue(fair(clash, jobs_of(host)))
            self.assertIs(is_placing(book, crowd, found), True)
        self.assertEqual(placing(Book(()), ()), ())
        self.assertEqual(hosts_in(()), 0)

    def test_is_placing_of_all_ways(self):
        for book, crowd in CASES[::9]:
            clash = clash_by(book)
            for hosts in partings(jobs_of(crowd)):
                thing = told_crowd(told_crowd(host) for host in hosts)
                self.assertIs(is_placing(book, crowd, thing), all(fair(clash, host) for host in hosts))
                self.assertEqual(hosts_in(thing), len(hosts))

    def test_is_placing_bent(self):
        book = Book.of("a b c; a-a a-c")
        crowd = (("a", 2), ("b", 3), ("c", 1))

        def told(thing):
            try:
                right = type(thing) is tuple and all(
                    type(pair) is tuple and is_crowd(book, pair[0]) and pair[0] and type(pair[1]) is int and pair[1] > 0
                    and fair(clash_by(book), jobs_of(pair[0])) and len(pair) == 2 for pair in thing)
                return bool(right) and thing == tuple(sorted(dict(thing).items())) and crowd == told_crowd(
                    kind for host, many in thing for kind in jobs_of(host) * many)
            except (IndexError, TypeError, ValueError):
                return False

        right = [thing for thing in {told_crowd(map(told_crowd, hosts)) for hosts in partings(jobs_of(crowd))}
                 if told(thing)]
        self.assertGreater(len(right), 5)
        for placed in sorted(right):
            self.assertIs(is_placing(book, crowd, placed), True)
            for thing in bent_things(placed, ("a", "b", 0, 1, 2, 3, True, None, (), ("b", 1), (("b", 1),))):
                self.assertIs(is_placing(book, crowd, thing), told(thing), thing)
        for thing in STRANGE:
            self.assertIs(is_placing(book, crowd, thing), False)
            self.assertIs(is_placing(book, (), thing), thing == ())

    def test_empty_hosts_and_numbers_below_one(self):
        a, both = (("a", 1),), (("a", 1), ("b", 1))
        crowd = (("a", 3), ("b", 2))
        self.assertIs(is_placing(Book(("a", "b")), crowd, ((a, 1), (both, 2))), True)
        for thing in ((((), 1), (a, 1), (both, 2)), (((), 0), (a, 1), (both, 2)), (((), True), (a, 1), (both, 2)),
                      ((a, 1), (both, 2), ((("b", 1),), 0)), ((a, 0), (both, 2), ((("a", 1), ("b", 2)), 0)),
                      ((a, -1), (both, 2), ((("a", 2),), 1)), ((a, True), (both, 2)), ((both, 2), (a, 1)),
                      ((a, 1), (both, 1), (both, 1)), ((a, 1, 1), (both, 2)), ((a, 1), (both,))):
            self.assertIs(is_placing(Book(("a", "b")), crowd, thing), False, thing)
        self.assertIs(is_placing(Book(("a", "b")), crowd, ((a, -1), ((("a", 2), ("b", 1)), 2))), False)
        for thing in ((((), 1),), (((), 0),), ((a, 0),)):
            self.assertIs(is_placing(Book(("a", "b")), (), thing), False)

    def test_without_a_tree(self):
        two = (((("a", 1), ("c", 1)), 1), ((("b", 1), ("d", 1)), 1))
        three = (((("a", 1), ("d", 1)), 1), ((("b", 1),), 1), ((("c", 1),), 1))
        self.assertIs(is_placing(CHAIN, crowd_of("abcd"), two), True)
        self.assertIs(is_placing(CHAIN, crowd_of("abcd"), three), True)
        self.assertIs(is_placing(CHAIN, crowd_of("abcd"), two[:1]), False)
        self.assertIs(is_placing(CHAIN, crowd_of("abcd"), (((("a", 1), ("b", 1)), 1), ((("c", 1), ("d", 1)), 1))), False)

    def test_great_numbers(self):
        book = Book.of("a b c; a-a a-b b-b")
        crowd = (("a", GREAT), ("b", GREAT), ("c", GREAT))
        hosts = placing(book, crowd)
        self.assertEqual(hosts_in(hosts), 2 * GREAT)
        self.assertIs(is_placing(book, crowd, hosts), True)
        self.assertIs(is_placing(book, (("a", GREAT), ("b", GREAT), ("c", GREAT - 1)), hosts), False)


class Rooms(Refusing):

    def test_room(self):
        for book, crowd in IN_TREE[::2]:
            now = told_need(book, crowd)
            for kind in book.kinds:
                kinds = sorted({kind, *dict(crowd)})
                if four(book.only(kinds)) is not None:
                    self.refuses(NoTree, {"four": four(book.only(kinds))}, room, book, crowd, kind)
                    continue
                found = room(book, crowd, kind)
                if found is None:
                    for more in (1, 2):
                        self.assertEqual(told_need(book, together(crowd, ((kind, more),))), now)
                    self.assertEqual(need(book, together(crowd, ((kind, GREAT),))), now)
                else:
                    self.assertIs(type(found), int)
                    if found:
                        self.assertEqual(need(book, together(crowd, ((kind, found),))), now)
                    self.assertGreater(need(book, together(crowd, ((kind, found + 1),))), now)

    def test_great_room(self):
        pair = Book.of("a b; a-a b-b")
        self.assertEqual(room(pair, (("a", GREAT), ("b", 2)), "b"), GREAT - 2)
        self.assertEqual(room(pair, (("a", GREAT),), "b"), GREAT)
        self.assertEqual(room(pair.against(Book(("x",))), (("a", 7), ("b", 2), ("x", 1)), "b"), 5)
        for step in (2, 3):
            book = deep_book(NAMES, step)
            crowd = tuple((kind, at * at + 1) for at, kind in enumerate(NAMES[1:]))
            now = need(book, crowd)
            for kind in NAMES:
                found = room(book, crowd, kind)
                if found is None:
                    self.assertEqual(need(book, together(crowd, ((kind, GREAT),))), now)
                else:
                    self.assertGreater(need(book, together(crowd, ((kind, found + 1),))), now)
                    if found:
                        self.assertEqual(need(book, together(crowd, ((kind, found),))), now)

    def test_order_of_errors(self):
        self.refuses(NoKind, {"kind": "x"}, room, CHAIN, (("x", 1),), "y")
        self.refuses(NoKind, {"kind": "y"}, room, CHAIN, crowd_of("abcd"), "y")
        self.refuses(NoTree, {"four": ("a", "b", "c", "d")}, room, CHAIN, crowd_of("abcd"), "a")
        self.refuses(NoTree, {"four": ("a", "b", "c", "d")}, room, CHAIN, crowd_of("abd"), "c")
        self.refuses(NoKind, {"kind": "y"}, room, CHAIN, (), "y")

    def test_weighty(self):
        for book, crowd in CASES:
            now = told_need(book, crowd)
            told = []
            for kind in dict(crowd):
                jobs = jobs_of(crowd)
                jobs.remove(kind)
                if least_need(book, jobs) < now:
                    told.append(kind)
            self.assertEqual(weighty(book, crowd), tuple(told), (book.text, crowd))
        self.assertEqual(weighty(PORTS, ()), ())
        self.assertEqual(weighty(PORTS, (("db", GREAT), ("log", 1), ("web", GREAT))), ("db", "log"))
        self.assertEqual(weighty(RING, crowd_of("abcde")), ("a", "b", "c", "d", "e"))

    def test_sets_by_need(self):
        for book in SMALL + GREATER:
            if four(book) is not None:
                self.refuses(NoTree, {"four": four(book)}, sets_by_need, book)
                continue
            told = collections.Counter(
                least_need(book, kinds) for size in range(len(book) + 1)
                for kinds in itertools.combinations(book.kinds, size))
            self.assertEqual(sets_by_need(book), sorted(told.items()))
        self.assertEqual(sets_by_need(Book(())), [(0, 1)])

    def test_sets_by_need_of_forty_kinds(self):
        full = Book(NAMES).turned()
        found = sets_by_need(full)
        self.assertEqual(sum(many for _, many in found), 2 ** 40)
        self.assertEqual(found[:3] + found[-1:], [(0, 1), (1, 40), (2, 780), (40, 1)])
        self.assertEqual(sets_by_need(Book(NAMES)), [(0, 1), (1, 2 ** 40 - 1)])
        found = sets_by_need(deep_book(NAMES, 3))
        self.assertEqual([at for at, _ in found], list(range(len(found))))
        self.assertEqual(sum(many for _, many in found), 2 ** 40)


class Rows(Refusing):

    def rows(self):
        source = random.Random(7)
        for book in (Book(()), Book(("a",)), CHAIN, PORTS, RING):
            for length in (0, 1, 2, 5, 9, 12):
                for _ in range(4):
                    row = ()
                    while len(row) < length and (book.kinds or jobs_behind(row)):
                        row = (*row, source.choice(next_deeds(book.kinds, row)))
                    yield book, row

    def test_against_a_plain_going_through(self):
        for book, row in self.rows():
            self.assertEqual(there(row), tuple(sorted(jobs_behind(row).items())))
            crowds = [told_crowd(jobs_behind(row[:deeds]).values()) for deeds in range(len(row) + 1)]
            self.assertEqual(crowds_along(row), crowds)
            told = [least_need(book, jobs_behind(row[:deeds]).values()) for deeds in range(len(row) + 1)]
            self.assertEqual(needs(book, row), told)
            self.assertEqual(peaks(book, row), list(itertools.accumulate(told, max)))
            self.assertIs(is_row(book, row), True)
            self.assertEqual((there(lists_for(row)), crowds_along(lists_for(row))), (there(row), crowds))
            self.assertEqual(peaks(book, lists_for(row)), peaks(book, row))

    def test_empty(self):
        self.assertEqual((there(()), crowds_along(()), needs(CHAIN, ()), peaks(CHAIN, ())), ((), [()], [0], [0]))
        self.assertIs(is_row(Book(()), ()), True)

    def test_no_kind(self):
        row = (("come", "a"), ("go", 0), ("come", "y"), ("come", "x"), ("come", "a"))
        for act in (needs, peaks):
            self.refuses(NoKind, {"kind": "y"}, act, CHAIN, row)
            self.refuses(NoKind, {"kind": "a"}, act, PORTS, row)
            self.refuses(NoKind, {"kind": "y"}, act, CHAIN, lists_for(row))

    def test_sixty_deeds(self):
        book = deep_book(NAMES, 3)
        row = tuple(("come", kind) for kind in NAMES) + tuple(("go", job) for job in range(20))
        found = needs(book, row)
        self.assertEqual(found, [by_tree(tree_of(book), {**dict.fromkeys(NAMES, 0), **dict(crowd)})
                                 for crowd in crowds_along(row)])
        self.assertEqual(peaks(book, row)[-1], max(found))
        row = tuple(("come", "abcd"[at % 4]) if at % 3 else ("come", "a") for at in range(60))
        self.assertEqual(len(there(row)), 60)
        # Jobs that go make room for a chain: ten jobs at the most, without a tree.
        row = tuple(deed for at in range(12) for deed in (("come", "abcd"[at % 4]),) + ((("go", at - 6),) if at > 5 else ()))
        self.assertEqual(needs(CHAIN, row), [least_need(CHAIN, jobs_behind(row[:deeds]).values())
                                             for deeds in range(len(row) + 1)])

    def test_is_row(self):
        for row in ((("come", "a"), ("go", 0)), (("come", "a"), ("come", "a"), ("go", 1), ("go", 0), ("come", "b"), ("go", 2))):
            self.assertIs(is_row(CHAIN, row), True)
        for row in ((("go", 0),), (("come", "a"), ("go", 0), ("go", 0)), (("come", "a"), ("go", 1)), (("come", "a"), ("go", -1)),
                    (("come", "a"), ("go", False)), (("come", "a"), ("come", "a"), ("go", True)), (("come", "x"),),
                    (("come", "a"), ("go", "a")), (("come", 0),), (("came", "a"),), (("come", "a", "b"),), (("come",),),
                    [("come", "a")], (["come", "a"],), ("come", "a"), "come", (("come", ("a",)),), (("come", None),),
                    (("come", "a"), None), (("come", "a"), ("go", None)), (("come", "a"), ("go", (0,))), (("a", "come"),),
                    (("come", Book(("a",))),), ((Book(()), "a"),), (("come", "a"), ("go", [0]))):
            self.assertIs(is_row(CHAIN, row), False, row)
        for thing in STRANGE:
            self.assertIs(is_row(CHAIN, thing), thing == (), thing)

    def test_rows_bent_in_one_place(self):
        def told(book, thing):
            try:
                for at, (word, what) in enumerate(thing):
                    right = what in book.kinds if word == "come" else (
                        word == "go" and type(what) is int and what in jobs_behind(thing[:at]))
                    if not right or type(thing[at]) is not tuple:
                        return False
                return type(thing) is tuple
            except (TypeError, ValueError):
                return False

        for book, row in list(self.rows())[40::3]:
            for thing in bent_things(row, ("a", "zz", "come", "go", 0, 1, 3, -1, True, False, None, ("go", 0), ("come", "a"))):
                self.assertIs(is_row(book, thing), told(book, thing), thing)

    def test_is_row_of_very_many_deeds(self):
        row = tuple(("come", "a") if at & 1 == 0 else ("go", at // 2) for at in range(5000))
        self.assertIs(is_row(CHAIN, row), True)
        self.assertIs(is_row(CHAIN, (*row, ("go", 7))), False)


if __name__ == "__main__":
    unittest.main()
