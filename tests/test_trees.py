"""TREEs (promises 2, 3 and 5)."""

import itertools
import re
import unittest

from onehostmore.books import Book
from onehostmore.errors import BadText, NoKind, NoTree
from onehostmore.patterns import four
from onehostmore.trees import (
    book_of, has_tree, is_tree, least_out, meeting_word, tree_in, tree_kinds, tree_of, tree_text, turned_tree)
from things import (
    STRANGE, Refusing, all_books, bent_things, deep_book, lists_for, many_kinds, nested, pairs_of, some_books)

SMALL = [book for kinds in ((), ("a",), ("a", "b"), ("a", "b", "c")) for book in all_books(kinds)]
FOURS = list(all_books(("a", "b", "c", "d")))
GREATER = [book for many in (5, 6, 8) for book in some_books(tuple("bdfhjlnp"[:many]), 40, many)]
NAMES = many_kinds(40)


def kinds_in(part):
    if part[0] == "one":
        return [part[1]]
    return [kind for below in part[1:] for kind in kinds_in(below)]


def clash_in(part, one, other):
    """Whether two kinds clash by the words of the document, going down from the top."""
    if part[0] == "one":
        return part[2] == 1
    for below in part[1:]:
        if one in kinds_in(below) and other in kinds_in(below):
            return clash_in(below, one, other)
    return part[0] == "against"


def told_book(tree):
    kinds = sorted(kinds_in(tree)) if tree[0] != "none" else []
    return Book(kinds, [pair for pair in pairs_of(kinds) if clash_in(tree, *pair)])


def told_text(part):
    if part[0] == "one":
        return part[1] + ("*" if part[2] else "")
    inner = " ".join(told_text(below) for below in part[1:])
    return f"({inner})" if part[0] == "side" else f"[{inner}]"


WITH_TREE = [book for book in SMALL + FOURS + GREATER if four(book) is None]


class Trees(Refusing):

    def test_a_tree_exactly_if_there_is_no_four(self):
        for book in SMALL + FOURS + GREATER:
            found = four(book)
            self.assertIs(has_tree(book), found is None, book.text)
            if found is None:
                self.assertTrue(is_tree(tree_of(book)), book.text)
                self.assertEqual(told_book(tree_of(book)), book)
            else:
                self.refuses(NoTree, {"four": found}, tree_of, book)
        self.assertEqual(sum(has_tree(book) for book in FOURS), 832)
        self.assertEqual(len({repr(tree_of(book)) for book in FOURS if has_tree(book)}), 832)

    def test_what_a_tree_tells(self):
        for book in WITH_TREE:
            tree = tree_of(book)
            self.assertEqual(book_of(tree), book)
            self.assertEqual(tree_kinds(tree), book.kinds)
            self.assertEqual(turned_tree(tree), tree_of(book.turned()))
            self.assertTrue(is_tree(turned_tree(tree)))

    def test_edges(self):
        for book, tree in ((Book(()), ("none",)), (Book(("a",)), ("one", "a", 0)), (Book.of("a; a-a"), ("one", "a", 1))):
            self.assertIs(has_tree(book), True)
            self.assertEqual(repr(tree_of(book)), repr(tree))
            self.assertEqual(book_of(tree), book)
            self.assertEqual(tree_kinds(tree), book.kinds)
        self.assertEqual(repr(turned_tree(("none",))), "('none',)")
        self.assertEqual(repr(turned_tree(("one", "a", 0))), "('one', 'a', 1)")
        self.assertEqual(repr(turned_tree(("one", "a", 1))), "('one', 'a', 0)")

    def test_turned_parts_stand_in_another_order(self):
        a, b, c = [("one", kind, 0) for kind in "abc"]
        against, turned = ("side", ("against", a, c), b), ("against", ("one", "b", 1), ("side", *[
            ("one", kind, 1) for kind in "ac"]))
        self.assertEqual((turned_tree(against), turned_tree(turned)), (turned, against))

    def test_meeting_word(self):
        for book in WITH_TREE:
            tree = tree_of(book)
            for one, other in itertools.permutations(book.kinds, 2):
                self.assertEqual(meeting_word(tree, one, other), "against" if book.clash(one, other) else "side")

    def test_meeting_word_no_kind(self):
        tree = tree_in("[a (b c*)]")
        self.refuses(NoKind, {"kind": "x"}, meeting_word, tree, "x", "a")
        self.refuses(NoKind, {"kind": "y"}, meeting_word, tree, "a", "y")
        self.refuses(NoKind, {"kind": "y"}, meeting_word, tree, "y", "x")
        self.refuses(NoKind, {"kind": "one"}, meeting_word, tree, "one", "side")
        self.refuses(NoKind, {"kind": "a"}, meeting_word, ("none",), "a", "b")
        self.refuses(NoKind, {"kind": "b"}, meeting_word, ("one", "a", 0), "a", "b")

    def test_lists_for_tuples(self):
        for book in WITH_TREE[::7]:
            tree = tree_of(book)
            given = lists_for(tree)
            self.assertEqual(repr(turned_tree(given)), repr(turned_tree(tree)))
            self.assertEqual((book_of(given), tree_kinds(given), tree_text(given)),
                             (book, book.kinds, tree_text(tree)))
            for one, other in itertools.permutations(book.kinds, 2):
                self.assertEqual(meeting_word(given, one, other), meeting_word(tree, one, other))
            self.assertEqual(given, lists_for(tree))


class IsTree(unittest.TestCase):

    def told(self, thing):
        """Whether it is the one TREE of the book that it tells, if it tells one."""
        try:
            book = told_book(thing)
            return repr(tree_of(book)) == repr(thing) and all(re.fullmatch("[a-z]+", kind) for kind in book.kinds)
        except Exception:
            return False

    def test_strange_things(self):
        for thing in STRANGE:
            self.assertIs(is_tree(thing), False, thing)

    def test_bent_in_one_place(self):
        for book in WITH_TREE[::3]:
            tree = tree_of(book)
            self.assertIs(is_tree(tree), True)
            for thing in bent_things(tree, ("b", "zz", "A", "", 0, 1, 2, -1, True, False, None, "one", "side", "against",
                                            "none", ("one", "x", 1), ("none",), ("one", "a", False))):
                if is_tree(thing) is not self.told(thing):
                    self.fail(thing)

    def test_near_to_trees(self):
        a, b, c = [("one", kind, 0) for kind in "abc"]
        for thing in (("none",), a, ("one", "abcdefghijk", 1), ("side", a, b), ("side", a, b, c),
                      ("against", a, ("side", b, c)), ("side", ("against", a, b), c), ("side", ("against", b, c), a)):
            self.assertIs(is_tree(thing), True, thing)
        for thing in (["none"], ("none", "none"), ("none", ()), (("none",),), ("side",), ("side", a), ("side", b, a),
                      ("side", a, a), ("side", a, ("one", "a", 1)), ("side", a, ("none",)), ("side", a, ("side", b, c)),
                      ("side", c, ("against", a, b)), ("against", ("side", b, c), a), ("side", a, list(b)),
                      ["side", a, b], ("against", a, ("side", b, a)), ("one", "a"), ("one", "a", 0, 0), ("one", "a", "0"),
                      ("one", ("a",), 0), ("one", "A", 0), ("one", "a", 2), ("one", "a", -1), ("one", "a", False),
                      ("against", a, ("against", b, c)), ("besides", a, b), (("side",), a, b), (None, a, b),
                      ("side", a, b, None), ("side", a, b, "c"), ("side", a, 5), ("side", "a", "b"), ("one",), "none",
                      ("side", Book(("a",)), Book(("b",))), ("one", Book(("a",)), 0), ("one", "a", Book(()))):
            self.assertIs(is_tree(thing), False, thing)

    def test_deep_ones(self):
        for step in (1, 2, 3, 5):
            tree = tree_of(deep_book(NAMES, step))
            self.assertIs(is_tree(tree), True)
            self.assertIs(is_tree(lists_for(tree)), False)
        for depth in range(1, 12):
            self.assertIs(is_tree(nested(("none",), depth)), False)
            self.assertIs(is_tree(nested(("one", "a", 0), depth)), False)

    def test_more_than_forty_kinds(self):
        kinds = many_kinds(300)
        flat = ("side", *[("one", kind, 0) for kind in kinds])
        self.assertIs(is_tree(flat), True)
        self.assertIs(is_tree((*flat, ("one", kinds[0], 1))), False)
        self.assertIs(is_tree((*flat[:-1], ("one", kinds[0], 1))), False)


class Texts(Refusing):

    def test_there_and_back(self):
        for book in WITH_TREE:
            tree = tree_of(book)
            text = tree_text(tree)
            self.assertEqual(text, told_text(tree) if len(book) else "-")
            self.assertEqual(repr(tree_in(text)), repr(tree))

    def test_bad_texts(self):
        for text in ("", " ", "- ", "--", "()", "[]", "(a)", "[a]", "(-)", "(a -)", "a b", "a*b", "a**", "*", "*a", "(a  b)",
                     "( a b)", "(a b )", "(a b) ", " (a b)", "(a b", "a b)", "(a b]", "[a b)", "(b a)", "(a a)", "(a a*)",
                     "(a* a)", "((a b) c)", "(a (b c))", "[a [b c]]", "[(a b*) d]", "(c [a b])", "(a [b c])", "(a b))",
                     "((a b)", ")a b(", "(a,b)", "(A b)", "a\n", "\na", "a\tb", "none", "(a b)(c d)", "[(a b)(c d)]",
                     "[(c d) (a b)]", "(a 1)", "a1", "(a b)*", "[a b]*", "(a *b)", "\u00e9", "(a [b a])", "({a b})"):
            if text == "none":
                self.assertEqual(tree_in(text), ("one", "none", 0))
            else:
                self.refuses(BadText, {}, tree_in, text)

    def test_one_sign_changed(self):
        """A changed text is read exactly if it is the text of the tree that was read."""
        for book in WITH_TREE[::25]:
            text = tree_text(tree_of(book))
            changed = {text[:at] + sign + text[at + skip:] for at in range(len(text) + 1)
                       for sign in ("", " ", "(", ")", "[", "]", "*", "-", "a", "b", "A", "\n") for skip in (0, 1)}
            for other in changed:
                try:
                    tree = tree_in(other)
                except BadText:
                    continue
                self.assertTrue(is_tree(tree), other)
                self.assertEqual(told_text(tree) if tree[0] != "none" else "-", other)

    def test_forty_brackets(self):
        for step in (1, 2, 3):
            tree = tree_of(deep_book(NAMES, step))
            self.assertEqual(repr(tree_in(tree_text(tree))), repr(tree))
            for bracket in "()[]":
                text = tree_text(tree)
                self.refuses(BadText, {}, tree_in, text.replace(bracket, "", 1))
                self.refuses(BadText, {}, tree_in, text.replace(bracket, bracket + bracket, 1))
        self.refuses(BadText, {}, tree_in, "(" * 40)
        self.refuses(BadText, {}, tree_in, "(" * 40 + "a" + ")" * 40)
        self.refuses(BadText, {}, tree_in, "[(" * 20 + "a" + ")]" * 20)


class LeastOut(unittest.TestCase):

    def test_against_a_look_at_all_sets(self):
        for book in SMALL + FOURS[::9] + GREATER:
            for size in range(len(book) + 1):
                found = [out for out in itertools.combinations(book.kinds, size)
                         if four(book.only([kind for kind in book.kinds if kind not in out])) is None]
                if found:
                    break
            self.assertEqual(repr(least_out(book)), repr(found[0]), book.text)

    def test_twelve_kinds(self):
        kinds = NAMES[:12]
        line = Book(kinds, list(zip(kinds, kinds[1:])))
        self.assertEqual(least_out(line), (kinds[0], kinds[4], kinds[8]))
        self.assertEqual(least_out(Book(kinds)), ())
        for book in some_books(kinds, 4, 12):
            out = least_out(book)
            rest = book.only([kind for kind in kinds if kind not in out])
            self.assertIsNone(four(rest))
            for kind in out:
                self.assertIsNotNone(four(rest.with_kind(kind, [one for one in book.clashing(kind)
                                                                if one in rest or one == kind])))


class Bounds(Refusing):

    def test_forty_kinds(self):
        for step in (1, 2, 3, 5):
            book = deep_book(NAMES, step)
            tree = tree_of(book)
            self.assertIs(has_tree(book), True)
            self.assertEqual(book_of(tree), book)
            self.assertEqual(tree_kinds(tree), NAMES)
            self.assertEqual(turned_tree(tree), tree_of(book.turned()))
            for one, other in itertools.combinations(NAMES, 2):
                self.assertEqual(meeting_word(tree, one, other), "against" if book.clash(one, other) else "side")
        calm = Book(NAMES)
        self.assertEqual(tree_of(calm), ("side", *[("one", kind, 0) for kind in NAMES]))
        w, x, y, z = NAMES[36:]
        self.refuses(NoTree, {"four": (w, x, y, z)}, tree_of, Book(NAMES, ((w, x), (x, y), (y, z))))
        self.assertIs(has_tree(Book(NAMES, ((w, x), (x, y), (y, z)))), False)


if __name__ == "__main__":
    unittest.main()
