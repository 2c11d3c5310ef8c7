"""The game of a keeper against all that may come (promises 2, 3 and 10)."""

import functools
import itertools
import random
import unittest

from onehostmore.books import Book
from onehostmore.errors import Known, NoKind, Selfish
from onehostmore.game import best_hosts, comers, promise, value
from onehostmore.most import is_spread, most_waste
from onehostmore.patterns import four
from models import clash_by, least_need, partings
from things import Refusing, all_books, lists_for, many_kinds, some_books

CHAIN = Book.of("a b c d; a-b b-c c-d")
RING = Book.of("a b c d; a-b a-d b-c c-d")
PENT = Book.of("a b c d e; a-b a-e b-c c-d d-e")
NAMES = many_kinds(40)


def unselfish(book):
    return Book(book.kinds, [pair for pair in book.clashes if pair[0] != pair[1]])


SMALL = [book for kinds in ("", "a", "ab", "abc") for book in all_books(tuple(kinds)) if not book.selfish]
FOURS = [*map(unselfish, some_books(("a", "b", "c", "d"), 25, 1)), CHAIN, RING]
FIVES = [*map(unselfish, some_books(("a", "b", "c", "d", "e"), 12, 2)), PENT]
SIXES = [*map(unselfish, some_books(("a", "b", "c", "d", "e", "f"), 8, 3)),
         Book.of("a b c d e f; a-b a-f b-c c-d d-e e-f"), PENT.with_kind("f", ("a",))]


class Play:
    """A plain play: the adversary sends jobs of whatever kinds, the keeper puts them wherever it can."""

    def __init__(self, book, again):
        self.book, self.again, self.clash = book, again, clash_by(book)
        self.least = functools.lru_cache(maxsize=None)(self.least)

    def free(self, hosts, kind):
        return [at for at, host in enumerate(hosts) if not any(self.clash(kind, other) for other in host)]

    def put(self, hosts, at, kind):
        hosts = [set(host) for host in hosts]
        if at == len(hosts):
            hosts.append(set())
        hosts[at].add(kind)
        return frozenset_of(hosts)

    def waste(self, hosts):
        return len(hosts) - least_need(self.book, set().union(*hosts))

    def least(self, hosts, left):
        """The least waste that the keeper can keep to, if at most so many jobs come."""
        worst = self.waste(hosts)
        present = set().union(*hosts)
        for kind in self.book.kinds if left else ():
            if self.again or kind not in present:
                worst = max(worst, min(self.behind(hosts, kind, left).values()))
        return worst

    def behind(self, hosts, kind, left):
        """For each host that the keeper can take what it can keep to then."""
        return {at: self.least(self.put(hosts, at, kind), left - 1) for at in [*self.free(hosts, kind), len(hosts)]}


def frozenset_of(hosts):
    """Hosts in some order that is always the same for the same ones."""
    return tuple(sorted([tuple(sorted(host)) for host in hosts]))


def all_spreads(book):
    """SPREADs of the book, for each way to put some kinds on hosts one, the hosts in some order."""
    for size in range(len(book) + 1):
        for kinds in itertools.combinations(book.kinds, size):
            for hosts in partings(list(kinds), clash_by(book)):
                yield tuple(tuple(sorted(host)) for host in hosts)


class Promises(Refusing):

    def check(self, book, play, spread):
        self.assertTrue(is_spread(book, spread))
        new = [kind for kind in book.kinds if not any(kind in host for host in spread)]
        now = play.least(frozenset_of(spread), len(new))
        self.assertEqual(promise(book, spread), now, (book.text, spread))
        told = []
        for kind in new:
            found = {at: play.least(play.put(spread, at, kind), len(new) - 1)
                     for at in [*play.free(spread, kind), len(spread)]}
            best = tuple(sorted(at for at in found if found[at] == min(found.values())))
            self.assertEqual(best_hosts(book, spread, kind), best, (book.text, spread, kind))
            if min(found.values()) == now:
                told.append(kind)
        self.assertEqual(comers(book, spread), tuple(told), (book.text, spread))

    def test_against_a_plain_play(self):
        for book in [*SMALL, *FOURS]:
            play = Play(book, False)
            for spread in all_spreads(book):
                self.check(book, play, spread)
                self.check(book, play, spread[::-1])

    def test_five_and_six_kinds(self):
        source = random.Random(4)
        for book in [*FIVES, *SIXES]:
            play = Play(book, False)
            spreads = list(all_spreads(book))
            for spread in [(), *source.sample(spreads, min(8, len(spreads)))]:
                self.check(book, play, tuple(source.sample(spread, len(spread))))

    def test_kinds_that_come_again_change_nothing(self):
        for book in [*SMALL, *FOURS[:10], CHAIN, RING]:
            play = Play(book, True)
            for spread in list(all_spreads(book))[::3]:
                self.assertEqual(promise(book, spread), play.least(frozenset_of(spread), 5), (book.text, spread))

    def test_waste_that_is_there(self):
        apart = (("a",), ("b",), ("c",))
        three = Book(("a", "b", "c"))
        self.assertEqual((promise(three, apart), comers(three, apart)), (2, ()))
        # What wastes now need not waste any more later: the greatest waste is told, and it was now.
        late = Book.of("a b c; a-c b-c")
        self.assertEqual((promise(late, (("a",), ("b",))), promise(late, (("a", "b"),))), (1, 0))
        self.assertEqual((best_hosts(late, (("a",),), "b"), best_hosts(late, (("a",), ("b",)), "c")), ((0,), (2,)))
        self.assertEqual(comers(late, (("a",), ("b",))), ("c",))

    def test_edges(self):
        empty, one = Book(()), Book(("a",))
        self.assertEqual((promise(empty, ()), comers(empty, ()), value(empty)), (0, (), 0))
        self.assertEqual((promise(one, ()), comers(one, ()), value(one), best_hosts(one, (), "a")), (0, ("a",), 0, (0,)))
        self.assertEqual((promise(one, (("a",),)), comers(one, (("a",),))), (0, ()))
        for kind in CHAIN.kinds:
            self.assertEqual(best_hosts(CHAIN, (), kind), (0,))
        self.assertEqual((promise(spread=[["a"]], book=CHAIN), comers(spread=[["a"]], book=CHAIN)), (1, ("d",)))
        self.assertEqual((value(book=CHAIN), best_hosts(kind="d", spread=[["a"]], book=CHAIN)), (1, (0, 1)))

    def test_places_are_those_of_the_spread(self):
        far = Book.of("a b c d e; b-e c-e")
        for spread in itertools.permutations((("a",), ("b",), ("c",))):
            self.assertEqual(best_hosts(far, spread, "e"), (spread.index(("a",)),))

    def test_errors(self):
        own = Book.of("a b c; a-c b-b c-c")
        for act in (value, lambda book: promise(book, ()), lambda book: comers(book, (("a",),)),
                    lambda book: best_hosts(book, (("a",),), "x"), lambda book: best_hosts(book, (("a",),), "a")):
            self.refuses(Selfish, {"kind": "b"}, act, own)
        self.refuses(NoKind, {"kind": "x"}, best_hosts, CHAIN, (("a",),), "x")
        self.refuses(NoKind, {"kind": "x"}, best_hosts, Book(()), (), "x")
        for kind in ("a", "c"):
            self.refuses(Known, {"kind": kind}, best_hosts, CHAIN, (("b",), ("a", "c")), kind)
        self.refuses(Selfish, {"kind": "a"}, value, Book.of("a; a-a"))

    def test_lists(self):
        for book in FOURS[:5]:
            for spread in list(all_spreads(book))[::5]:
                listed = lists_for(spread)
                self.assertEqual(promise(book, listed), promise(book, spread))
                self.assertEqual(comers(book, listed), comers(book, spread))
                for kind in book.kinds:
                    if not any(kind in host for host in spread):
                        self.assertEqual(best_hosts(book, listed, kind), best_hosts(book, spread, kind))
                self.assertEqual(listed, lists_for(spread))


def named(book, kinds):
    """The book with other KINDs."""
    names = dict(zip(book.kinds, kinds))
    return Book(kinds, [(names[one], names[other]) for one, other in book.clashes])


class Values(unittest.TestCase):

    def test_against_promise_and_a_plain_play(self):
        found = set()
        for book in [*SMALL, *FOURS, *FIVES, *SIXES]:
            told = Play(book, False).least((), len(book))
            self.assertEqual((value(book), promise(book, ())), (told, told), book.text)
            self.assertLessEqual(value(book), most_waste(book))
            if four(book) is None:
                self.assertEqual(value(book), 0)
            found.add(told)
        self.assertEqual(found, {0, 1})

    def test_books_without_a_ring_of_an_odd_number(self):
        for many in (4, 5, 6):
            for book in map(unselfish, some_books(NAMES[:many], 60, many)):
                halves = Book(book.kinds, [pair for pair in book.clashes
                                           if (NAMES.index(pair[0]) + NAMES.index(pair[1])) % 2])
                self.assertEqual(value(halves), 0 if four(halves) is None else 1, halves.text)
                self.assertEqual(promise(halves, ()), value(halves), halves.text)

    def test_beside_and_against(self):
        others = [Book(()), Book(("x",)), named(CHAIN, ("p", "q", "r", "s")), named(PENT, ("p", "q", "r", "s", "t")),
                  named(RING, ("p", "q", "r", "s"))]
        for one in [*SMALL[::3], *FOURS[::4], *FIVES[::3], *SIXES[::3], CHAIN, PENT]:
            for other in others:
                self.assertEqual(value(one.beside(other)), max(value(one), value(other)))
                self.assertEqual(value(one.against(other)), value(one) + value(other))

    def test_what_is_parted_against_the_game_of_the_whole(self):
        for one in (Book(("a",)), Book(("a", "b"))):
            other = named(CHAIN, ("p", "q", "r", "s"))
            for whole in (one.beside(other), one.against(other)):
                self.assertEqual(value(whole), promise(whole, ()))

    def test_forty_kinds(self):
        line = Book(NAMES, list(zip(NAMES, NAMES[1:])))
        ring = Book(NAMES, [*zip(NAMES, NAMES[1:]), (NAMES[0], NAMES[-1])])
        crown = Book(NAMES, [(one, other) for at, one in enumerate(NAMES[:20])
                             for to, other in enumerate(NAMES[20:]) if at != to])
        halves = Book(NAMES, [(one, other) for one in NAMES[:20] for other in NAMES[20:]])
        self.assertEqual([value(book) for book in (line, ring, crown, halves, Book(NAMES))], [1, 1, 1, 0, 0])
        all_clash = unselfish(Book(NAMES).turned())
        self.assertEqual(value(all_clash), 0)
        eight = Book(())
        for at in range(0, 40, 5):
            eight = eight.against(named(PENT, NAMES[at:at + 5]))
        self.assertEqual(value(eight), 8)
        six = Book(())
        for at in range(0, 36, 6):
            six = six.against(named(SIXES[-1], NAMES[at:at + 6]))
        self.assertEqual(value(six), 6 * value(SIXES[-1]))
        self.assertEqual(value(named(line.only(NAMES[:20]), NAMES[:20]).against(named(CHAIN, NAMES[20:24]))), 2)


if __name__ == "__main__":
    unittest.main()
