"""Keepers, RUNs and what they waste (promises 2, 3 and 8)."""

import itertools
import random
import unittest

from onehostmore.books import Book
from onehostmore.crowds import need, needs, peaks
from onehostmore.errors import NoKeeper, NoKind
from onehostmore.keepers import (
    WORDS, Keeper, first_waste, hosts_behind, is_lazy, is_run, kinds_of, not_by, not_lazy_at, opens, wastes)
from onehostmore.patterns import four, paw
from models import all_runs, clash_by, hosts_along, limits, told_choice, told_hosts, told_run
from things import (
    STRANGE, Refusing, all_books, bent_things, deep_book, lists_for, many_kinds, nested, some_books, some_row)

PAIR = Book.of("p q s; p-q")
CHAIN = Book.of("a b c d; a-b b-c c-d")
DEEDS = (("come", "p"), ("come", "q"), ("come", "s"), ("go", 0), ("come", "q"), ("come", "p"))
NAMES = many_kinds(40)
BOOKS = [*all_books(("a", "b")), *some_books(("a", "b", "c"), 20, 1), *some_books(("a", "b", "c", "d"), 20, 2),
         *some_books(("a", "b", "c", "d", "e"), 10, 3), CHAIN, PAIR]


def some_cases(length, many, seed):
    source = random.Random(seed)
    for book in BOOKS:
        for _ in range(many):
            yield book, some_row(source, book.kinds, source.randint(0, length)), source


def any_run(source, book, row):
    """A RUN of a keeper that does whatever it likes."""
    run = ()
    hosts = [()]
    for at, (word, what) in enumerate(row):
        if word == "come":
            here = hosts_along(row[:at], run)[-1]
            run = (*run, source.choice([*here.free(clash_by(book), what), here.opened]))
    return run


CASES = [(book, row, any_run(source, book, row)) for book, row, source in some_cases(10, 4, 4)]


class Keepers(Refusing):

    def test_words(self):
        self.assertEqual(repr(WORDS), "('alike', 'empty', 'first', 'full', 'last')")

    def test_no_keeper(self):
        for word in ("", "best", "First", "first ", "lazy", "some", "firstlast", "fir", "ALIKE", "a", "\n", "Keeper"):
            self.refuses(NoKeeper, {"given": word}, Keeper, word)
            self.refuses(NoKeeper, {"given": word}, Keeper, word=word)

    def test_word(self):
        for word in WORDS:
            keeper = Keeper(word)
            self.assertEqual(keeper.word, word)
            self.assertEqual(Keeper(word=word).word, word)
            with self.assertRaises(AttributeError):
                keeper.word = "last"
            self.assertEqual(keeper.word, word)

    def test_equal(self):
        for one in WORDS:
            for other in WORDS:
                self.assertIs(Keeper(one) == Keeper(other), one == other)
                self.assertIs(Keeper(one) != Keeper(other), one != other)
            for thing in (*STRANGE, one, (one,), [one], object()):
                self.assertIs(Keeper(one) == thing, False)
                self.assertIs(thing == Keeper(one), False)


class Choices(Refusing):

    def hosts(self, source, book):
        """HOSTS on which no jobs clash; the numbers may leave some out."""
        clash = clash_by(book)
        found = []
        number = 0
        for _ in range(source.randint(0, 5)):
            number += source.randint(1, 3)
            kinds = []
            for _ in range(source.randint(1, 4)):
                kind = source.choice(book.kinds)
                if not any(clash(kind, other) for other in kinds):
                    kinds.append(kind)
            found.append((number - 1, tuple(sorted(kinds))))
        return tuple(found)

    def test_against_the_table(self):
        source = random.Random(5)
        for book in BOOKS:
            for _ in range(25):
                hosts = self.hosts(source, book)
                for kind in book.kinds:
                    for word in WORDS:
                        found = Keeper(word).choice(book, hosts, kind)
                        self.assertEqual(found, told_choice(book, hosts, kind, word), (book.text, hosts, kind, word))
                        self.assertEqual(Keeper(word).choice(book, lists_for(hosts), kind), found)

    def test_ties_and_alike(self):
        book = Book.of("a b c d; b-d c-d")
        hosts = ((1, ("a", "a")), (3, ("b",)), (4, ("a", "c")), (6, ("d", "d")), (7, ("a",)))
        told = {"first": (1, 1), "last": (7, 7), "full": (1, 1), "empty": (3, 7), "alike": (3, 6)}
        for word in WORDS:
            self.assertEqual((Keeper(word).choice(book, hosts, "c"), Keeper(word).choice(book, hosts, "d")), told[word])
        self.assertEqual(Keeper("alike").choice(book, hosts[3:], "b"), 7)
        self.assertEqual(Keeper("alike").choice(book, hosts[:1], "d"), 1)
        own = Book.of("a b; a-a a-b b-b")
        for word in WORDS:
            self.assertIsNone(Keeper(word).choice(own, ((0, ("a",)),), "b"))
            self.assertIsNone(Keeper(word).choice(own, (), "b"))

    def test_no_kind(self):
        for word in WORDS:
            for hosts in ((), ((0, ("p", "s")),)):
                self.refuses(NoKind, {"kind": "x"}, Keeper(word).choice, PAIR, hosts, "x")
                self.refuses(NoKind, {"kind": "x"}, Keeper(word).choice, kind="x", hosts=hosts, book=PAIR)
            self.assertEqual(Keeper(word).choice(kind="q", hosts=((4, ("s",)),), book=PAIR), 4)


class Runs(Refusing):

    def test_run(self):
        for book, row, _ in CASES:
            for word in WORDS:
                found = Keeper(word).run(book, row)
                self.assertIs(type(found), tuple)
                self.assertEqual(found, told_run(book, row, word), (book.text, row, word))
                self.assertEqual(Keeper(word).run(row=lists_for(row), book=book), found)
                self.assertIs(is_run(book, row, found), True)
                self.assertIs(is_lazy(book, row, found), True)
                self.assertIsNone(not_by(book, row, found, word))

    def test_kinds_of(self):
        self.assertEqual(kinds_of(()), ())
        self.assertEqual(kinds_of(DEEDS), ("p", "q", "s", "q", "p"))
        for _, row, _ in CASES:
            self.assertEqual(kinds_of(lists_for(row)), tuple(what for word, what in row if word == "come"))

    def test_hosts_behind_and_opens(self):
        for _, row, run in CASES:
            along = [told_hosts(hosts) for hosts in hosts_along(row, run)]
            for deeds in range(len(row) + 3):
                self.assertEqual(hosts_behind(row, run, deeds), along[min(deeds, len(row))])
            self.assertEqual(hosts_behind(row, run, 10 ** 40), along[-1])
            self.assertEqual(opens(row, run), tuple(len(hosts) for hosts in along[1:]))
            self.assertEqual(hosts_behind(lists_for(row), list(run), 5), hosts_behind(row, run, 5))
            self.assertEqual(opens(lists_for(row), list(run)), opens(row, run))

    def test_hosts_that_close_do_not_come_back(self):
        row = (("come", "p"), ("go", 0), ("come", "p"), ("come", "p"), ("go", 1), ("go", 2), ("come", "p"))
        for word in WORDS:
            run = Keeper(word).run(PAIR, row)
            self.assertEqual(run, (0, 1, 1, 2))
            self.assertEqual(opens(row, run), (1, 0, 1, 1, 1, 0, 1))
            self.assertEqual(hosts_behind(row, run, 7), ((2, ("p",)),))
        self.assertIs(is_run(PAIR, row, (0, 0, 0, 0)), False)
        self.assertIs(is_run(PAIR, row, (0, 1, 2, 3)), True)
        self.assertIs(is_run(PAIR, row, (0, 1, 2, 2)), False)

    def test_without_deeds(self):
        for word in WORDS:
            self.assertEqual(Keeper(word).run(Book(()), ()), ())
            self.assertIsNone(not_by(PAIR, (), (), word))
        self.assertEqual((opens((), ()), hosts_behind((), (), 0), hosts_behind((), (), 3)), ((), (), ()))
        for measure in ("moment", "peak"):
            self.assertEqual(wastes(PAIR, (), (), measure), ())
            self.assertIsNone(first_waste(PAIR, (), (), measure))
        self.assertIs(is_run(PAIR, (), ()), True)
        self.assertIs(is_lazy(PAIR, (), ()), True)
        self.assertIsNone(not_lazy_at(PAIR, (), ()))


class IsRun(unittest.TestCase):

    def test_against_all_runs(self):
        for book, row, _ in list(some_cases(6, 1, 6)):
            jobs = len(kinds_of(row))
            told = {run for run, _ in all_runs(book, row, "some")}
            if jobs < 5:
                for thing in itertools.product(range(-1, jobs + 1), repeat=jobs):
                    self.assertIs(is_run(book, row, thing), thing in told, (book.text, row, thing))
            lazy = {run for run, _ in all_runs(book, row, "lazy")}
            for run in told:
                self.assertIs(is_run(book, row, run), True)
                self.assertIs(is_lazy(book, row, run), run in lazy)

    def test_bent_in_one_place(self):
        for book, row, run in CASES[::4]:
            told = {run for run, _ in all_runs(book, row, "some")} if len(run) < 6 else None
            self.assertIs(is_run(book, row, run), True)
            for thing in bent_things(run, (0, 1, 2, 5, -1, 10 ** 40, True, False, None, "a", "0", (), (0,), Keeper("first"))):
                right = type(thing) is tuple and all(type(number) is int for number in thing) and len(thing) == len(run)
                if not right:
                    self.assertIs(is_run(book, row, thing), False, thing)
                elif told is not None:
                    self.assertIs(is_run(book, row, thing), thing in told, thing)

    def test_strange_things(self):
        for thing in STRANGE:
            self.assertIs(is_run(PAIR, DEEDS, thing), thing == (0, 1, 2, 3, 4))
            self.assertIs(is_run(PAIR, (), thing), thing == ())
        self.assertIs(is_run(PAIR, DEEDS[:1], (False,)), False)
        self.assertIs(is_run(PAIR, DEEDS[:1], (0,)), True)
        self.assertIs(is_run(PAIR, DEEDS, [0, 1, 1, 1, 2]), False)
        for depth in range(1, 12):
            self.assertIs(is_run(PAIR, DEEDS, nested((0, 1, 1, 1, 2), depth)), False)


class Wastes(unittest.TestCase):

    def test_against_plain_counts(self):
        for book, row, run in CASES:
            for measure in ("moment", "peak"):
                told = tuple(max(0, many - most) for many, most in zip(opens(row, run), limits(book, row, measure)))
                self.assertEqual(wastes(book, row, run, measure), told)
                places = [at for at, waste in enumerate(told) if waste]
                self.assertEqual(first_waste(book, row, run, measure), places[0] if places else None)
                self.assertEqual(wastes(book, lists_for(row), list(run), measure), told)
        self.assertTrue(any(max(wastes(book, row, run, "peak"), default=0) > 1 for book, row, run in CASES))

    def test_what_keepers_promise(self):
        source = random.Random(8)
        for book in [*BOOKS, *some_books(("a", "b", "c", "d", "e", "f"), 60, 9)]:
            if four(book) is None:
                row = tuple(("come", source.choice(book.kinds)) for _ in range(12))
                self.assertIsNone(first_waste(book, row, Keeper("first").run(book, row), "moment"))
                if paw(book) is None:
                    for _ in range(5):
                        row = some_row(source, book.kinds, 20)
                        self.assertIsNone(first_waste(book, row, Keeper("alike").run(book, row), "peak"))


class Laziness(unittest.TestCase):

    def test_against_a_plain_going_through(self):
        for book, row, run in CASES:
            clash = clash_by(book)
            along = hosts_along(row, run)
            comings = [at for at, (word, _) in enumerate(row) if word == "come"]
            lazy = [at for job, at in enumerate(comings)
                    if run[job] == along[at].opened and along[at].free(clash, row[at][1])]
            self.assertEqual(not_lazy_at(book, row, run), lazy[0] if lazy else None)
            self.assertIs(is_lazy(book, row, run), not lazy)
            self.assertEqual(not_lazy_at(book, lists_for(row), list(run)), not_lazy_at(book, row, run))
            for word in WORDS:
                other = []
                for job, at in enumerate(comings):
                    told = told_choice(book, told_hosts(along[at]), row[at][1], word)
                    if run[job] != (along[at].opened if told is None else told):
                        other.append(at)
                self.assertEqual(not_by(book, row, run, word), other[0] if other else None)
                self.assertEqual(not_by(book, lists_for(row), list(run), word), not_by(book, row, run, word))

    def test_by_names(self):
        run = (0, 1, 2, 1, 2)
        self.assertEqual(not_lazy_at(run=run, row=DEEDS, book=PAIR), 2)
        self.assertEqual(not_by(word="last", run=run, row=DEEDS, book=PAIR), 2)
        self.assertIs(is_lazy(run=run, row=DEEDS, book=PAIR), False)
        self.assertIs(is_run(thing=run, row=DEEDS, book=PAIR), True)
        self.assertEqual(hosts_behind(deeds=2, run=run, row=DEEDS), ((0, ("p",)), (1, ("q",))))
        self.assertEqual(wastes(measure="moment", run=run, row=DEEDS, book=PAIR), (0, 0, 1, 1, 1, 0))
        self.assertEqual(first_waste(measure="moment", run=run, row=DEEDS, book=PAIR), 2)
        self.assertEqual(opens(run=run, row=DEEDS), (1, 2, 3, 2, 2, 2))


class Bounds(unittest.TestCase):

    def test_sixty_deeds_and_forty_kinds(self):
        source = random.Random(10)
        for book in (deep_book(NAMES, 2), deep_book(NAMES, 3), Book(NAMES), Book(NAMES).turned()):
            rows = [some_row(source, NAMES, 60), tuple(("come", kind) for kind in NAMES + NAMES[:20]),
                    tuple(("come", kind) for kind in NAMES[:30]) + tuple(("go", job) for job in range(30))]
            for row in rows:
                for word in WORDS:
                    run = Keeper(word).run(book, row)
                    self.assertEqual(run, told_run(book, row, word))
                    self.assertIs(is_run(book, row, run), True)
                    self.assertIs(is_lazy(book, row, run), True)
                    self.assertIsNone(not_by(book, row, run, word))
                    for measure, along in (("moment", needs(book, row)), ("peak", peaks(book, row))):
                        self.assertEqual(wastes(book, row, run, measure),
                                         tuple(max(0, many - most) for many, most in zip(opens(row, run), along[1:])))

    def test_ten_jobs_without_a_tree(self):
        ring = Book.of("a b c d e; a-b a-e b-c c-d d-e")
        row = tuple(deed for at in range(25) for deed in (
            (("come", "abcde"[at % 5]),) if at < 10 else (("go", at - 10), ("come", "aebdc"[at % 5]))))[:60]
        self.assertEqual(len(row), 40)
        run = Keeper("first").run(ring, row)
        self.assertEqual(wastes(ring, row, run, "moment"),
                         tuple(many - most for many, most in zip(opens(row, run), limits(ring, row, "moment"))))
        self.assertEqual(need(ring, (("a", 2), ("b", 2), ("c", 2), ("d", 2), ("e", 2))), 3)


if __name__ == "__main__":
    unittest.main()
