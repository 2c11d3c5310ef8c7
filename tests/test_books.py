"""Books, what is made of them, and how their kinds hang together (promises 2, 3 and 4)."""

import itertools
import unittest

from onehostmore.books import Book, alike, classes, knots, peaces, shortened
from onehostmore.errors import BadText, Known, NoKind, OtherKinds, Twice
from models import clash_by
from things import STRANGE, Refusing, all_books, many_kinds, pairs_of, some_books

SMALL = [book for kinds in ((), ("a",), ("a", "b"), ("a", "b", "c")) for book in all_books(kinds)]
GREATER = [book for many in (4, 5, 6, 9) for book in some_books(tuple("bdfhjlnpr"[:many]), 15, many)]
NAMES = many_kinds(40)


class Making(Refusing):

    def test_order_does_not_matter(self):
        book = Book(("c", "a", "b"), (("c", "a"), ("b", "b")))
        self.assertEqual(book.kinds, ("a", "b", "c"))
        self.assertEqual(book.clashes, (("a", "c"), ("b", "b")))
        self.assertEqual(book.selfish, ("b",))
        self.assertEqual(book, Book(("a", "b", "c"), (("b", "b"), ("a", "c"))))

    def test_pairs_twice_and_turned_round(self):
        book = Book(("a", "b"), (("b", "a"), ("a", "b"), ("b", "a"), ("a", "a"), ("a", "a")))
        self.assertEqual(book.clashes, (("a", "a"), ("a", "b")))
        self.assertEqual(book.clashing("a"), ("a", "b"))
        self.assertEqual(book.clashing("b"), ("a",))

    def test_longer_kinds_are_compared_as_strings(self):
        book = Book(("b", "ab", "a", "abc"), (("b", "abc"), ("ab", "a")))
        self.assertEqual(book.kinds, ("a", "ab", "abc", "b"))
        self.assertEqual(book.clashes, (("a", "ab"), ("abc", "b")))
        self.assertEqual(book.text, "a ab abc b; a-ab abc-b")

    def test_without_kinds(self):
        for book in (Book(()), Book((), ()), Book([], []), Book(kinds=(), clashes=())):
            self.assertEqual((book.kinds, book.clashes, book.selfish, book.text, len(book)), ((), (), (), "-", 0))
            self.assertNotIn("a", book)

    def test_one_kind(self):
        calm, own = Book(("a",)), Book(("a",), (("a", "a"),))
        self.assertEqual((calm.kinds, calm.clashes, calm.selfish, calm.text), (("a",), (), (), "a"))
        self.assertEqual((own.kinds, own.clashes, own.selfish, own.text), (("a",), (("a", "a"),), ("a",), "a; a-a"))

    def test_twice(self):
        self.refuses(Twice, {"kind": "b"}, Book, ("a", "b", "b", "a"))
        self.refuses(Twice, {"kind": "a"}, Book, ("a", "b", "a", "b"))
        self.refuses(Twice, {"kind": "a"}, Book, ["b", "a", "a"])

    def test_no_kind(self):
        self.refuses(NoKind, {"kind": "z"}, Book, ("a", "b"), (("a", "b"), ("b", "z"), ("y", "a")))
        self.refuses(NoKind, {"kind": "y"}, Book, ("a", "b"), (("a", "b"), ("y", "z")))
        self.refuses(NoKind, {"kind": "a"}, Book, (), (("a", "a"),))
        self.refuses(NoKind, {"kind": "x"}, Book, ("a",), [["a", "x"]])

    def test_twice_comes_first(self):
        self.refuses(Twice, {"kind": "a"}, Book, ("a", "a"), (("x", "y"),))

    def test_lists_and_names(self):
        kinds, pair = ["b", "a"], ["b", "a"]
        pairs = [pair]
        book = Book(clashes=pairs, kinds=kinds)
        self.assertEqual((kinds, pairs), (["b", "a"], [["b", "a"]]))
        kinds.append("c")
        pair[0] = "a"
        pairs.append(("b", "b"))
        self.assertEqual(book.text, "a b; a-b")
        self.assertEqual((book.kinds, book.clashes, book.clashing("a")), (("a", "b"), (("a", "b"),), ("b",)))

    def test_no_setters(self):
        book = Book.of("a b; a-b")
        for name in ("kinds", "clashes", "selfish", "text"):
            with self.assertRaises(AttributeError):
                setattr(book, name, ())
        self.assertEqual(book.text, "a b; a-b")

    def test_returned_values_may_be_passed_in(self):
        for book in SMALL + GREATER:
            self.assertEqual(Book(book.kinds, book.clashes), book)
            self.assertEqual(Book(book.kinds[::-1], [pair[::-1] for pair in book.clashes] * 2), book)

    def test_sets_are_tuples(self):
        for book in SMALL:
            for found in (book.kinds, book.clashes, book.selfish, *book.clashes, classes(book), knots(book),
                          peaces(book), *classes(book), *knots(book), *peaces(book),
                          *[book.clashing(kind) for kind in book.kinds], *[book.peaceful(kind) for kind in book.kinds]):
                self.assertIs(type(found), tuple)


class Asking(Refusing):

    def test_against_the_pairs(self):
        for book in SMALL + GREATER:
            clash = clash_by(book)
            self.assertEqual(book.selfish, tuple(kind for kind in book.kinds if clash(kind, kind)))
            for one in book.kinds:
                self.assertEqual(book.clashing(one), tuple(other for other in book.kinds if clash(one, other)))
                self.assertEqual(book.peaceful(one), tuple(
                    other for other in book.kinds if other != one and not clash(one, other)))
                for other in book.kinds:
                    self.assertIs(book.clash(one, other), clash(one, other))

    def test_len_and_in(self):
        for book in SMALL + GREATER:
            self.assertEqual(len(book), len(book.kinds))
            for kind in "abcdefghijklmnopqrstuvwxyz":
                self.assertIs(kind in book, kind in book.kinds)

    def test_no_iteration(self):
        for book in (Book(()), Book(("a",)), Book.of("a b; a-b")):
            with self.assertRaises(TypeError):
                iter(book)
            with self.assertRaises(TypeError):
                list(book)
            with self.assertRaises(TypeError):
                for _ in book:
                    pass

    def test_equal(self):
        for at, one in enumerate(SMALL):
            for there, other in enumerate(SMALL):
                self.assertIs(one == other, at == there)
                self.assertIs(one != other, at != there)

    def test_equal_to_nothing_else(self):
        for book in (Book(()), Book(("a",)), Book.of("a b; a-b")):
            for thing in STRANGE:
                if not isinstance(thing, Book):
                    self.assertIs(book == thing, False)
                    self.assertIs(thing == book, False)
            for thing in (book.text, book.kinds, book.clashes, (book.kinds, book.clashes), object()):
                self.assertIs(book == thing, False)

    def test_no_kind(self):
        book = Book.of("a b; a-b")
        self.refuses(NoKind, {"kind": "x"}, book.clash, "x", "a")
        self.refuses(NoKind, {"kind": "y"}, book.clash, "a", "y")
        self.refuses(NoKind, {"kind": "y"}, book.clash, "y", "x")
        self.refuses(NoKind, {"kind": "x"}, book.clash, "x", "x")
        self.refuses(NoKind, {"kind": "ab"}, book.clashing, "ab")
        self.refuses(NoKind, {"kind": "ab"}, book.peaceful, "ab")
        self.refuses(NoKind, {"kind": "a"}, Book(()).clashing, "a")

    def test_by_names(self):
        book = Book.of("a b c; a-b c-c")
        self.assertIs(book.clash(other="a", one="b"), True)
        self.assertEqual(book.clashing(kind="c"), ("c",))
        self.assertEqual(book.peaceful(kind="c"), ("a", "b"))

    def test_within(self):
        books = list(all_books(("a", "b"))) + list(some_books(("a", "b", "c"), 12, 1))
        for one in books:
            for other in books:
                if one.kinds == other.kinds:
                    self.assertIs(one.within(other), set(one.clashes) <= set(other.clashes))
                    self.assertIs(one.within(other=other), set(one.clashes) <= set(other.clashes))
                else:
                    self.refuses(OtherKinds, {"kind": "c"}, one.within, other)

    def test_within_other_kinds(self):
        book = Book.of("b d f; b-d")
        for text, kind in (("-", "b"), ("b d", "f"), ("a b d f", "a"), ("b c d f", "c"), ("b d f g", "g"),
                           ("c d", "b"), ("b e", "d"), ("b c d", "c"), ("bb d f", "b")):
            self.refuses(OtherKinds, {"kind": kind}, book.within, Book.of(text))
            self.refuses(OtherKinds, {"kind": kind}, Book.of(text).within, book)


class Derived(Refusing):

    def check(self, book, kinds, clash):
        """The book has just these kinds, of which just those clash that the function tells."""
        self.assertIs(type(book), Book)
        self.assertEqual(book, Book(kinds, [pair for pair in pairs_of(kinds) if clash(*pair)]))

    def test_only_and_without(self):
        for book in SMALL + GREATER[:20]:
            text, clash = book.text, clash_by(book)
            for number in range(2 ** len(book)):
                kinds = tuple(kind for at, kind in enumerate(book.kinds) if number >> at & 1)
                self.check(book.only(kinds), kinds, clash)
            for kind in book.kinds:
                self.check(book.without(kind), tuple(other for other in book.kinds if other != kind), clash)
            self.assertEqual(book.text, text)

    def test_only_and_without_no_kind(self):
        book = Book.of("b d; b-d")
        self.refuses(NoKind, {"kind": "a"}, book.only, ("a", "b", "c"))
        self.refuses(NoKind, {"kind": "c"}, book.only, ["b", "c", "e"])
        self.refuses(NoKind, {"kind": "bd"}, book.without, "bd")
        self.refuses(NoKind, {"kind": "a"}, Book(()).without, "a")

    def test_with_kind(self):
        for book in SMALL:
            for kind in ("aa", "x"):
                kinds = tuple(sorted((*book.kinds, kind)))
                for number in range(2 ** len(kinds)):
                    clashing = tuple(other for at, other in enumerate(kinds) if number >> at & 1)
                    pairs = {frozenset((kind, other)) for other in clashing} | {frozenset(p) for p in book.clashes}
                    self.check(book.with_kind(kind, clashing), kinds, lambda a, b: frozenset((a, b)) in pairs)

    def test_with_kind_errors(self):
        book = Book.of("b d; b-d")
        self.refuses(Known, {"kind": "b"}, book.with_kind, "b", ())
        self.refuses(Known, {"kind": "d"}, book.with_kind, "d", ("a", "b"))
        self.refuses(NoKind, {"kind": "a"}, book.with_kind, "c", ("a", "b", "e"))
        self.refuses(NoKind, {"kind": "e"}, book.with_kind, "c", ("b", "c", "e", "f"))
        self.assertEqual(book.text, "b d; b-d")

    def test_copied(self):
        for book in SMALL + GREATER:
            clash = clash_by(book)
            for kind in book.kinds:
                for new in ("aa", "x"):
                    made = book.copied(kind, new)
                    stands = {new: kind}
                    self.check(made, tuple(sorted((*book.kinds, new))),
                               lambda a, b: clash(stands.get(a, a), stands.get(b, b)))
                    self.assertIs(alike(made, kind, new), True)
                    self.assertEqual(made.without(new), book)

    def test_copied_errors(self):
        book = Book.of("b d; b-d")
        self.refuses(NoKind, {"kind": "a"}, book.copied, "a", "b")
        self.refuses(NoKind, {"kind": "a"}, book.copied, "a", "a")
        self.refuses(Known, {"kind": "d"}, book.copied, "b", "d")
        self.refuses(Known, {"kind": "b"}, book.copied, "b", "b")

    def test_turned(self):
        for book in SMALL + GREATER:
            clash = clash_by(book)
            self.check(book.turned(), book.kinds, lambda a, b: not clash(a, b))
            self.assertEqual(book.turned().turned(), book)

    def test_beside_and_against(self):
        others = [Book(()), Book(("c",)), Book.of("c x; c-x x-x"), Book.of("aa x y; aa-y")]
        for book in all_books(("b", "d")):
            for other in others:
                kinds = tuple(sorted(book.kinds + other.kinds))
                mine, theirs = clash_by(book), clash_by(other)
                self.check(book.beside(other), kinds, lambda a, b: mine(a, b) or theirs(a, b))
                self.check(book.against(other), kinds,
                           lambda a, b: mine(a, b) or theirs(a, b) or (a in book) != (b in book))
                self.assertEqual(other.against(book), book.against(other))
                self.assertEqual(other.beside(book), book.beside(other))

    def test_beside_and_against_known(self):
        book = Book.of("b d f; b-d")
        for text, kind in (("b", "b"), ("a d f", "d"), ("a f g", "f"), ("a b d f", "b")):
            for act in (book.beside, book.against):
                self.refuses(Known, {"kind": kind}, act, Book.of(text))
        self.refuses(Known, {"kind": "b"}, book.against, book)
        self.assertEqual(Book(()).beside(Book(())), Book(()))

    def test_lists_and_names(self):
        book = Book.of("a b c; a-b c-c")
        kinds, clashing = ["a", "c"], ["a", "x"]
        made = [book.only(kinds=kinds), book.with_kind(clashing=clashing, kind="x")]
        self.assertEqual((kinds, clashing), (["a", "c"], ["a", "x"]))
        kinds.append("b")
        clashing.append("c")
        self.assertEqual([one.text for one in made], ["a c; c-c", "a b c x; a-b a-x c-c x-x"])
        self.assertEqual(book.without(kind="c").text, "a b; a-b")
        self.assertEqual(book.copied(new="d", kind="a").text, "a b c d; a-b b-d c-c")
        self.assertEqual(book.beside(other=Book(("x",))).text, "a b c x; a-b c-c")
        self.assertEqual(book.against(other=Book(("x",))).text, "a b c x; a-b a-x b-x c-c c-x")


class Texts(Refusing):

    def test_there_and_back(self):
        for book in SMALL + GREATER:
            pairs = " ".join(f"{one}-{other}" for one, other in book.clashes)
            text = " ".join(book.kinds) or "-"
            self.assertEqual(book.text, text + ("; " + pairs if pairs else ""))
            self.assertEqual(Book.of(book.text), book)
            self.assertEqual(Book.of(text=book.text).text, book.text)

    def test_longer_kinds(self):
        for text in ("abcdefghijklm", "a abcdefghi b; a-abcdefghi", "none; none-none", "z" * 3000):
            self.assertEqual(Book.of(text).text, text)

    def test_bad_texts(self):
        for text in ("", " ", ";", "; ", "--", "- ", " -", "-;", "-; ", "-; a-a", "- a", "a -", "a;", "a; ", "a ;", "a b ",
                     " a b", "a  b", "b a", "a a", "a b c b", "a,b", "A", "a B", "a1", "1", "a\n", "\na", "a\nb", "a\tb",
                     "a b; a-b\n", "a b; ", "a b; a", "a b; -", "a b; a-", "a b; -b", "a b; a-b-b", "a b; a--b",
                     "a b; a -b", "a b;a-b", "a b;  a-b", "a b ; a-b", "a b; a-b ", "a b;; a-b", "a b; a-b; a-b",
                     "a b; b-a", "a b; a-b a-b", "a b; a-b a-a", "a b; a-c", "a b; c-c", "a; a-b", "a b; a_b", "a b; a-B",
                     "a b c; a-b  b-c", "a b c; b-c a-b", "a b c; a-b, b-c", "a b c; a-b b-c c-", "a b c; a-b b-c;",
                     "a b; None", "a b; a-b a-b a-b", "b; b-b b-b", "a\u00e9", "\u00e9", "\u0430", "a\u00a0b", "a b; a\u2013b",
                     "a b; a-b%", "\x00", "a\r", "a b c; a-b c-b", "c a b", "a b; a-a b-a", "a b; a-a b-b a-b"):
            with self.subTest(text=text):
                self.refuses(BadText, {}, Book.of, text)

    def test_one_sign_changed(self):
        for text in ("-", "a", "a; a-a", "a b c; a-b b-b b-c", "ab b; ab-b b-b"):
            for at in range(len(text) + 1):
                for sign in ("", "a", "b", "z", " ", "-", ";", "\n", "A", "0"):
                    for other in (text[:at] + sign + text[at:], text[:at] + sign + text[at + 1:]):
                        try:
                            found = Book.of(other).text
                        except BadText:
                            continue
                        self.assertEqual(found, other)

    def test_all_short_texts(self):
        # Of all texts of at most six of these signs just those are read that some Book writes.
        words = [""]
        for word in words:
            words.extend([word + sign for sign in "ab" if len(word) < 6])
        known = {book.text for many in range(4) for kinds in itertools.combinations(sorted(words[1:]), many)
                 if len(" ".join(kinds)) <= 6 for book in all_books(kinds) if len(book.text) <= 6}
        found = set()
        for many in range(7):
            for signs in itertools.product("ab-; ", repeat=many):
                text = "".join(signs)
                try:
                    self.assertEqual(Book.of(text).text, text)
                    found.add(text)
                except BadText:
                    pass
        self.assertEqual(found, known)


class Hanging(Refusing):

    def test_alike(self):
        for book in SMALL + GREATER:
            clash = clash_by(book)
            for one in book.kinds:
                for other in book.kinds:
                    own = {clash(one, one), clash(other, other), clash(one, other)}
                    thirds = [kind for kind in book.kinds if kind not in (one, other)]
                    told = one == other or (len(own) == 1 and all(clash(k, one) == clash(k, other) for k in thirds))
                    self.assertIs(alike(book, one, other), told)

    def test_alike_no_kind(self):
        book = Book.of("a b; a-b")
        self.refuses(NoKind, {"kind": "x"}, alike, book, "x", "y")
        self.refuses(NoKind, {"kind": "y"}, alike, book, "a", "y")
        self.refuses(NoKind, {"kind": "x"}, alike, book, "x", "x")
        self.assertIs(alike(other="b", one="b", book=book), True)

    def test_classes_and_shortened(self):
        for book in SMALL + GREATER:
            told = {tuple(other for other in book.kinds if alike(book, kind, other)) for kind in book.kinds}
            self.assertEqual(classes(book), tuple(sorted(told)))
            least = tuple(sorted(kinds[0] for kinds in told))
            self.assertEqual(shortened(book), book.only(least))
            self.assertEqual(classes(book=book), classes(book))
            self.assertEqual(shortened(book=book), shortened(book))

    def test_knots_and_peaces(self):
        for book in SMALL + GREATER:
            clash = clash_by(book)
            self.assertEqual(knots(book), self.parts(book.kinds, clash))
            self.assertEqual(peaces(book), self.parts(book.kinds, lambda one, other: not clash(one, other)))
            self.assertEqual(peaces(book), knots(book.turned()))
            self.assertEqual((knots(book=book), peaces(book=book)), (knots(book), peaces(book)))

    def parts(self, kinds, near):
        """The sets of kinds that hang together: sets are joined, pair by pair."""
        found = {kind: {kind} for kind in kinds}
        for one in kinds:
            for other in kinds:
                if near(one, other):
                    joined = found[one] | found[other]
                    found.update({kind: joined for kind in joined})
        return tuple(sorted({tuple(sorted(part)) for part in found.values()}))

    def test_without_kinds_and_with_one(self):
        for act in (classes, knots, peaces):
            self.assertEqual(act(Book(())), ())
            self.assertEqual(act(Book(("a",))), (("a",),))
            self.assertEqual(act(Book.of("a; a-a")), (("a",),))
        self.assertEqual(shortened(Book(())), Book(()))
        self.assertEqual(shortened(Book.of("a; a-a")).text, "a; a-a")

    def test_a_way_that_goes_back_and_forth(self):
        book = Book.of("a b c d e f; a-f b-d b-f c-e")
        self.assertEqual(knots(book), (("a", "b", "d", "f"), ("c", "e")))
        self.assertEqual(peaces(book.turned()), (("a", "b", "d", "f"), ("c", "e")))


class Bounds(Refusing):

    def test_forty_kinds(self):
        ends = [(NAMES[at], NAMES[at + 1]) for at in range(39)]
        way = Book(NAMES[::-1], ends)
        self.assertEqual((len(way), way.kinds, way.clashes), (40, NAMES, tuple(ends)))
        self.assertEqual(knots(way), (NAMES,))
        self.assertEqual(peaces(way), (NAMES,))
        self.assertEqual(classes(way), tuple((kind,) for kind in NAMES))
        self.assertEqual(knots(way.without(NAMES[20])), (NAMES[:20], NAMES[21:]))
        self.assertEqual(Book.of(way.text), way)

    def test_forty_kinds_that_all_clash(self):
        full = Book(NAMES).turned()
        self.assertEqual((len(full.clashes), full.selfish), (820, NAMES))
        self.assertEqual(Book.of(full.text), full)
        self.assertEqual(classes(full), (NAMES,))
        self.assertEqual(shortened(full).text, "aa; aa-aa")
        self.assertEqual((knots(full), peaces(full)), ((NAMES,), tuple((kind,) for kind in NAMES)))
        self.assertEqual(full.turned(), Book(NAMES))
        self.assertIs(Book(NAMES).within(full), True)
        self.assertIs(full.within(Book(NAMES)), False)

    def test_forty_kinds_of_two_books(self):
        one, other = Book(NAMES[:20]), Book(NAMES[20:])
        self.assertEqual(len(one.against(other).clashes), 400)
        self.assertEqual(one.beside(other), Book(NAMES))
        self.assertEqual(peaces(one.against(other)), (NAMES[:20], NAMES[20:]))

    def test_eight_letters(self):
        book = Book(("abcdefgh", "abcdefgi", "z"), (("z", "abcdefgi"), ("abcdefgh", "abcdefgh")))
        self.assertEqual(book.text, "abcdefgh abcdefgi z; abcdefgh-abcdefgh abcdefgi-z")
        self.assertEqual(Book.of(book.text), book)

    def test_long_texts(self):
        for text in ("a " * 2000, "-" * 4000, "a b; " + "a-b " * 999, "\n" * 60, "a; " + "a" * 3997, "; " * 2000):
            self.refuses(BadText, {}, Book.of, text)


if __name__ == "__main__":
    unittest.main()
