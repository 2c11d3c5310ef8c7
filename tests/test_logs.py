"""What a log tells (promises 2, 3 and 12)."""

import itertools
import random
import unittest

from onehostmore.books import Book
from onehostmore.errors import NoKind, NoNumber
from onehostmore.logs import (
    broken, fewest_clashes, first_wrong, fits, how_many_fit, is_log, log_kinds, log_of, most_clashes, next_hosts, nth_fit,
    telling_row, told_clashes, told_peaces, verdict, wants)
from models import clash_by
from things import STRANGE, Refusing, all_books, bent_things, lists_for, many_kinds, nested, pairs_of, some_books, some_row

LOG = (("come", "a", 0), ("come", "b", 0), ("come", "c", 1))
BACK = (("come", "a", 0), ("come", "b", 1), ("go", "a", 0), ("come", "a", 2), ("come", "a", 2), ("go", "b", 1))
NAMES = many_kinds(8)
BOOKS = {size: list(all_books(tuple("abcd"[:size]))) for size in range(5)}


def told_log(book, row):
    """The LOG of first-free, hosts being dicts of jobs by their numbers."""
    clash = clash_by(book)
    hosts, where, opened, came, log = {}, {}, 0, 0, []
    for word, what in row:
        if word == "go":
            at = where[what]
            log.append(("go", hosts[at].pop(what), at))
            if not hosts[at]:
                del hosts[at]
            continue
        free = [at for at in sorted(hosts) if not any(clash(what, other) for other in hosts[at].values())]
        at = free[0] if free else opened
        opened = max(opened, at + 1)
        hosts.setdefault(at, {})[came] = what
        where[came] = at
        came += 1
        log.append(("come", what, at))
    return tuple(log)


def row_of_log(log):
    """A ROW that a LOG may tell of; of several jobs of a KIND on a host the one that came first goes."""
    row, there = [], []
    for word, kind, host in log:
        if word == "come":
            there.append((kind, host))
            row.append(("come", kind))
        else:
            job = there.index((kind, host))
            there[job] = None
            row.append(("go", job))
    return row


def told_fits(book, log):
    return all(kind in book.kinds for _, kind, _ in log) and told_log(book, row_of_log(log)) == tuple(log)


def any_log(source, kinds, length):
    """A LOG of a keeper that puts the jobs on any host, so maybe none that some Book fits."""
    log, there, opened = [], [], 0
    while kinds and len(log) < length:
        if there and source.random() < 0.35:
            kind, host = there.pop(source.randrange(len(there)))
            log.append(("go", kind, host))
        else:
            host = source.choice(sorted({opened, *[host for _, host in there]}))
            kind = source.choice(kinds)
            opened = max(opened, host + 1)
            there.append((kind, host))
            log.append(("come", kind, host))
    return tuple(log)


def some_logs(seed, sizes, many, length):
    """LOGs of first-free, and others."""
    source = random.Random(seed)
    for size in sizes:
        kinds = tuple("abcd"[:size])
        for _ in range(many):
            yield told_log(source.choice(BOOKS[size]), some_row(source, kinds, source.randint(0, length)))
            yield any_log(source, kinds, source.randint(0, length // 2))


class IsLog(unittest.TestCase):

    def told(self, thing):
        if type(thing) is not tuple:
            return False
        there, opened = [], 0
        for triple in thing:
            if type(triple) is not tuple or len(triple) != 3:
                return False
            word, kind, host = triple
            if type(kind) is not str or not kind or not all("a" <= sign <= "z" for sign in kind) or type(host) is not int:
                return False
            if word == "come" and type(word) is str and (host == opened or host in [at for _, at in there]):
                there.append((kind, host))
                opened = max(opened, host + 1)
            elif word == "go" and type(word) is str and (kind, host) in there:
                there.remove((kind, host))
            else:
                return False
        return True

    def test_logs(self):
        for log in (*some_logs(1, range(5), 20, 12), LOG, BACK, ()):
            self.assertIs(is_log(log), True, log)
            self.assertIs(is_log(list(log)), False)
            if log:
                self.assertIs(is_log((list(log[0]), *log[1:])), False)

    def test_bent_in_one_place(self):
        others = ("a", "b", "x", "", "A", "come", "go", 0, 1, 2, -1, True, False, None, (), ("come", "a", 0), Book(()))
        wrong = 0
        for log in (LOG, BACK):
            for thing in bent_things(log, others):
                self.assertIs(is_log(thing), self.told(thing), thing)
                wrong += not self.told(thing)
        self.assertGreater(wrong, 100)

    def test_strange_things(self):
        for thing in STRANGE:
            self.assertIs(is_log(thing), self.told(thing), thing)
        for depth in range(1, 10):
            self.assertIs(is_log(nested(("come", "a", 0), depth)), depth == 1)
        self.assertIs(is_log(()), True)

    def test_hosts_that_closed_do_not_come_back(self):
        self.assertIs(is_log((("come", "a", 0), ("go", "a", 0), ("come", "a", 0))), False)
        self.assertIs(is_log((("come", "a", 0), ("go", "a", 0), ("come", "a", 1))), True)
        self.assertIs(is_log((("come", "a", 1),)), False)
        self.assertIs(is_log((("come", "a", 0), ("come", "a", 0), ("go", "a", 0), ("come", "b", 0))), True)
        self.assertIs(is_log((("come", "a", 0), ("go", "b", 0))), False)

    def test_beyond_the_bounds(self):
        long = tuple(("come", chr(97 + at % 26) * 9, at) for at in range(200))
        self.assertIs(is_log(thing=long), True)
        self.assertIs(is_log((*long, ("go", "a" * 9, 0), ("go", "a" * 9, 0))), False)
        many = tuple(("come", "a", at) for at in range(5000))
        self.assertIs(is_log((*many, *[("go", "a", at) for at in range(5000)], ("come", "a", 5000))), True)


class Fits(Refusing):

    def test_log_of(self):
        source = random.Random(2)
        for size in range(5):
            for book in BOOKS[size][::max(1, len(BOOKS[size]) // 30)]:
                row = some_row(source, book.kinds, source.randint(0, 15))
                log = log_of(book, row)
                self.assertEqual(log, told_log(book, row))
                self.assertIs(is_log(log), True)
                self.assertIs(fits(book, log), True)
                self.assertEqual(log_kinds(log), tuple(sorted({what for word, what in row if word == "come"})))
        self.assertEqual((log_of(Book(()), ()), log_kinds(()), fits(Book(()), ())), ((), (), True))
        self.assertEqual(log_of(row=[["come", "a"], ["go", 0]], book=Book(("a",))), (("come", "a", 0), ("go", "a", 0)))

    def test_log_of_no_kind(self):
        row = (("come", "a"), ("come", "y"), ("go", 0), ("come", "x"))
        self.refuses(NoKind, {"kind": "y"}, log_of, Book(("a",)), row)
        self.refuses(NoKind, {"kind": "a"}, log_of, Book(()), lists_for(row))

    def test_sixty_deeds(self):
        source = random.Random(3)
        for book in some_books(NAMES, 5, 4):
            row = some_row(source, NAMES, 60)
            self.assertEqual(log_of(book, row), told_log(book, row))
            self.assertIs(fits(book, log_of(book, row)), True)

    def test_against_a_plain_first_free(self):
        right = wrong = 0
        for log in some_logs(5, range(4), 10, 10):
            for book in BOOKS[3][::5]:
                told = [number for number in range(len(log)) if not told_fits(book, log[:number + 1])]
                self.assertEqual(first_wrong(book, log), told[0] if told else None, (book.text, log))
                self.assertIs(fits(book, log), not told)
                right, wrong = right + (not told), wrong + bool(told)
        self.assertGreater(min(right, wrong), 40)

    def test_kinds_that_the_book_lacks(self):
        log = (("come", "a", 0), ("come", "x", 0), ("go", "x", 0), ("come", "a", 0))
        self.assertEqual((first_wrong(Book(("a",)), log), first_wrong(Book(()), log), fits(Book(("a",)), log)), (1, 0, False))
        self.assertEqual((first_wrong(Book(("a", "b", "x")), log), first_wrong(log=lists_for(log), book=Book(("x",)))),
                         (None, 0))
        self.assertEqual(first_wrong(Book.of("a x; a-x"), log), 1)
        self.assertEqual(first_wrong(Book.of("a x; a-a"), log), 3)


class Told(Refusing):

    def check(self, log):
        kinds = tuple(sorted({kind for _, kind, _ in log}))
        # Of all Books with just these kinds.
        books = [book for book in all_books(kinds) if told_fits(book, log)]
        books.sort(key=lambda book: book.clashes)
        pairs = pairs_of(kinds)
        self.assertEqual(log_kinds(log), kinds)
        first = [number for number in range(len(log)) if not self.some_fit(log[:number + 1])]
        self.assertEqual(broken(log), first[0] if first else None, log)
        self.assertEqual(not books, bool(first))
        if not books:
            found = [act(log) for act in (told_peaces, told_clashes, wants, most_clashes, fewest_clashes)]
            self.assertEqual(found, [None] * 5)
            self.assertEqual(how_many_fit(log), 0)
            self.assertIsNone(verdict(log, "a", "zz"))
            self.refuses(NoNumber, {"number": 0}, nth_fit, log, 0)
            return False
        self.assertEqual(told_peaces(log), tuple(pair for pair in pairs if not any(book.clash(*pair) for book in books)))
        self.assertEqual(told_clashes(log), tuple(pair for pair in pairs if all(book.clash(*pair) for book in books)))
        self.assertEqual(wants(log), self.told_wants(pairs, books), log)
        for one, other in itertools.product(kinds, repeat=2):
            answers = {book.clash(one, other) for book in books}
            told = "open" if len(answers) > 1 else "clash" if True in answers else "peace"
            self.assertEqual(verdict(log, one, other), told)
        self.assertEqual(most_clashes(log), max(books, key=lambda book: len(book.clashes)))
        self.assertEqual(how_many_fit(log), len(books))
        self.assertEqual(fewest_clashes(log), min(len(book.clashes) for book in books))
        source = random.Random(len(books))
        for number in {0, len(books) - 1, *[source.randrange(len(books)) for _ in range(20)]}:
            self.assertEqual(nth_fit(log, number), books[number], (log, number))
        for number in (-1, len(books), 10 ** 40):
            self.refuses(NoNumber, {"number": number}, nth_fit, log, number)
        return True

    def some_fit(self, log):
        return any(told_fits(book, log) for book in all_books(tuple(sorted({kind for _, kind, _ in log}))))

    def told_wants(self, pairs, books):
        """The least sets of pairs of which each of the books has one."""
        met = [set(book.clashes) for book in books]
        found = []
        for size in range(len(pairs) + 1):
            for some in itertools.combinations(pairs, size):
                if not any(set(other) <= set(some) for other in found) and all(set(some) & clashes for clashes in met):
                    found.append(some)
        return tuple(sorted(found))

    def test_against_all_books(self):
        right = wrong = 0
        for log in some_logs(6, range(4), 45, 14):
            if self.check(log):
                right += 1
            else:
                wrong += 1
        self.assertGreater(min(right, wrong), 30)

    def test_four_kinds(self):
        source = random.Random(7)
        done = 0
        while done < 6:
            log = told_log(source.choice(BOOKS[4]), some_row(source, tuple("abcd"), source.randint(6, 16)))
            if len(log_kinds(log)) == 4 and how_many_fit(log) < 150:
                self.check(log)
                done += 1

    def test_examples_of_the_edges(self):
        self.check(())
        self.assertEqual((broken(()), told_peaces(()), told_clashes(()), wants(()), how_many_fit(()), fewest_clashes(())),
                         (None, (), (), (), 1, 0))
        self.assertEqual((most_clashes(()), nth_fit((), 0), verdict((), "a", "a")), (Book(()), Book(()), "open"))
        self.refuses(NoNumber, {"number": 1}, nth_fit, (), 1)
        self.check((("come", "a", 0),))
        self.check((("come", "a", 0), ("come", "a", 0)))
        self.check((("come", "a", 0), ("come", "a", 1)))
        # b passes by a, that is no more, and nothing is told of both.
        self.check((("come", "a", 0), ("go", "a", 0), ("come", "b", 1)))
        self.check((("come", "a", 0), ("come", "b", 1), ("go", "a", 0), ("come", "a", 1)))

    def test_a_lesser_want_makes_a_greater_one_needless(self):
        log = (*LOG, ("go", "b", 0), ("come", "c", 2))
        self.assertEqual(wants(log), ((("a", "c"),), (("c", "c"),)))
        self.assertEqual(told_clashes(log), (("a", "c"), ("c", "c")))
        self.assertEqual(verdict(log, "c", "a"), "clash")

    def test_one_clash_that_two_sets_want(self):
        log = (*LOG, ("go", "a", 0), ("come", "d", 0), ("come", "c", 1))
        self.assertEqual(wants(log), ((("a", "c"), ("b", "c")), (("b", "c"), ("c", "d"))))
        self.assertEqual((fewest_clashes(log), how_many_fit(log), nth_fit(log, 0).clashes), (1, 80, (("a", "a"), ("a", "c"), (
            "a", "d"), ("b", "b"), ("b", "c"))))

    def test_kinds_that_are_not_in_the_log(self):
        for one, other in (("a", "x"), ("x", "a"), ("x", "x"), ("x", "y")):
            self.assertEqual(verdict(LOG, one, other), "open")
        bad = (*LOG, ("come", "c", 0))
        self.assertEqual((broken(bad), verdict(bad, "x", "y"), verdict(bad, "a", "b")), (3, None, None))

    def test_lists_and_names(self):
        log = lists_for(LOG)
        self.assertEqual([act(log=log) for act in (log_kinds, broken, told_peaces, told_clashes, wants, how_many_fit)],
                         [("a", "b", "c"), None, (("a", "b"),), (), ((("a", "c"), ("b", "c")),), 24])
        self.assertEqual(verdict(other="a", one="b", log=log), "peace")
        self.assertEqual(nth_fit(number=0, log=log).text, "a b c; a-a a-c")
        self.assertEqual(next_hosts(kind="b", log=log), (0, 1, 2))
        self.assertEqual((most_clashes(log=log).text, fewest_clashes(log=log)), ("a b c; a-a a-c b-b b-c c-c", 1))
        self.assertEqual(log, lists_for(LOG))


class Next(unittest.TestCase):

    def told(self, log, kind):
        kinds = tuple(sorted({kind, *[one for _, one, _ in log]}))
        hosts = {}
        for book in all_books(kinds):
            if told_fits(book, log):
                row = [*row_of_log(log), ("come", kind)]
                hosts[told_log(book, row)[-1][2]] = True
        return tuple(sorted(hosts))

    def test_against_all_books(self):
        none = 0
        for log in some_logs(8, range(3), 40, 12):
            for kind in ("a", "b", "c"):
                self.assertEqual(next_hosts(log, kind), self.told(log, kind), (log, kind))
                none += next_hosts(log, kind) == ()
        self.assertGreater(none, 10)

    def test_three_kinds_and_another_one(self):
        for log in some_logs(9, (3,), 12, 10):
            for kind in ("a", "c", "x"):
                self.assertEqual(next_hosts(log, kind), self.told(log, kind), (log, kind))

    def test_edges(self):
        self.assertEqual((next_hosts((), "a"), next_hosts((("come", "a", 0), ("go", "a", 0)), "a")), ((0,), (1,)))
        self.assertEqual(next_hosts((*LOG, ("come", "c", 0)), "a"), ())
        many = tuple(("come", "a", at) for at in range(60))
        self.assertEqual((next_hosts(many, "a"), next_hosts(many, "b")), ((60,), (0, 60)))


class Bounds(unittest.TestCase):

    def test_eight_kinds(self):
        source = random.Random(10)
        for book in some_books(NAMES, 12, 11):
            log = told_log(book, some_row(source, NAMES, 60))
            self.assertIsNone(broken(log))
            self.assertTrue(all(book.clash(*pair) for pair in told_clashes(log)))
            self.assertFalse(any(book.clash(*pair) for pair in told_peaces(log)))
            self.assertTrue(all(any(book.clash(*pair) for pair in pairs) for pairs in wants(log)))
            self.assertTrue(fits(most_clashes(log), log))
            for kind in (NAMES[0], "zz"):
                for host in next_hosts(log, kind):
                    self.assertIsNone(broken((*log, ("come", kind, host))))

    def test_five_kinds(self):
        source = random.Random(12)
        for book in some_books(NAMES[:5], 12, 13):
            for length in (3, 8, 60):
                log = told_log(book, some_row(source, NAMES[:5], length))
                many = how_many_fit(log)
                for number in (0, many // 3, many // 2, many - 1):
                    self.assertTrue(fits(nth_fit(log, number), log))
                found = [nth_fit(log, number).clashes for number in range(min(many, 40))]
                self.assertEqual(found, sorted(found))
                self.assertEqual(len(set(found)), len(found))
                self.assertTrue(fewest_clashes(log) <= len(book.only(log_kinds(log)).clashes) <= len(most_clashes(log).clashes))

    def test_that_only_one_book_fits_what_the_telling_row_tells(self):
        for size in range(4):
            kinds = tuple("abc"[:size])
            row = telling_row(kinds)
            self.assertLessEqual(len(row), 60)
            logs = {told_log(book, row) for book in BOOKS[size]}
            self.assertEqual(len(logs), len(BOOKS[size]))
            for book in BOOKS[size]:
                self.assertEqual([other for other in BOOKS[size] if fits(other, log_of(book, row))], [book])
                self.assertEqual(how_many_fit(log_of(book, row)), 1)

    def test_telling_row_of_four_kinds(self):
        row = telling_row(("a", "b", "c", "d"))
        self.assertTrue(0 < len(row) <= 60)
        self.assertEqual(len({told_log(book, row) for book in BOOKS[4]}), 1024)
        for book in BOOKS[4][::50]:
            self.assertEqual((how_many_fit(log_of(book, row)), nth_fit(log_of(book, row), 0)), (1, book))
        self.assertEqual(telling_row(kinds=["a", "b", "c", "d"]), row)
        self.assertEqual((telling_row(()), type(row)), ((), tuple))


if __name__ == "__main__":
    unittest.main()
