"""The sorts of books (promises 2, 3 and 5)."""

import unittest

from onehostmore.books import Book, shortened
from onehostmore.patterns import bent, four, pair_and_three, paw, third
from onehostmore.sorts import books_of, how_many, is_of, sorts_of
from things import all_books, deep_book, many_kinds, some_books

SORTS = ("tree", "lazy", "peak", "lots", "moment")
BOOKS = [book for kinds in ("", "a", "ab", "abc", "abcd") for book in all_books(tuple(kinds))]
NAMES = many_kinds(40)


def told_sorts(book):
    """The sorts by a look for the patterns."""
    tree = four(book) is None
    told = {
        "tree": tree,
        "lazy": tree and pair_and_three(book) is None,
        "peak": tree and paw(book) is None,
        "lots": third(book) is None or bent(book) is None,
        "moment": third(book) is None,
    }
    return tuple(sort for sort in SORTS if told[sort])


def lots_by(book, together):
    """Whether being together parts any jobs into lots; two jobs of each kind tell it all."""
    jobs = [(kind, number) for kind in book.kinds for number in range(3)]
    near = {(one, other): one == other or together(one[0], other[0]) for one in jobs for other in jobs}
    return all(near[one, other] for one in jobs for mid in jobs for other in jobs
               if near[one, mid] and near[mid, other])


class Sorts(unittest.TestCase):

    def check(self, book):
        told = told_sorts(book)
        self.assertEqual(sorts_of(book), told, book.text)
        for sort in SORTS:
            self.assertIs(is_of(sort, book), sort in told)

    def test_against_the_patterns(self):
        for book in BOOKS:
            self.check(book)
        for many in (5, 6, 8):
            for book in some_books(tuple("bdfhjlnp"[:many]), 60, many):
                self.check(book)

    def test_books_with_trees(self):
        for one in all_books(("a", "b")):
            for other in some_books(("c", "d", "e"), 25, 3):
                self.check(one.beside(other))
                self.check(one.against(other))

    def test_edges(self):
        for book in (Book(()), Book(("a",)), Book.of("a; a-a")):
            self.assertEqual(sorts_of(book), SORTS)
        self.assertEqual(sorts_of(Book.of("a b c d; a-b b-c c-d")), ())

    def test_what_moment_and_lots_mean(self):
        for book in BOOKS[:75] + BOOKS[75::11]:
            at_peace = lots_by(book, lambda one, other: not book.clash(one, other))
            clashing = lots_by(book, book.clash)
            self.assertIs(is_of("moment", book), at_peace, book.text)
            self.assertIs(is_of("lots", book), at_peace or clashing, book.text)

    def test_shortened_and_turned(self):
        for book in BOOKS:
            self.assertEqual(sorts_of(shortened(book)), sorts_of(book))
            self.assertIs(is_of("tree", book.turned()), is_of("tree", book))

    def test_beside_and_against(self):
        for one in all_books(("a", "b", "c")):
            for other in some_books(("x", "y"), 5, 9):
                both = set(sorts_of(one)) & set(sorts_of(other))
                self.assertLessEqual(both & {"tree", "peak"}, set(sorts_of(one.beside(other))))
                self.assertLessEqual(both & {"tree", "lazy", "moment"}, set(sorts_of(one.against(other))))

    def test_twenty_kinds_and_more(self):
        for kinds in (NAMES[:20], NAMES):
            half = len(kinds) // 2
            self.assertEqual(sorts_of(Book(kinds)), SORTS)
            self.assertEqual(sorts_of(Book(kinds).turned()), SORTS)
            self.assertEqual(sorts_of(Book(kinds[:half]).turned().beside(Book(kinds[half:]))), SORTS[:4])
            self.assertEqual(sorts_of(Book(kinds[:half]).turned().beside(Book(kinds[half:]).turned())), SORTS[:4])
            halves = Book(kinds[:half]).against(Book(kinds[half:]))
            self.assertEqual(sorts_of(halves), SORTS)
            more = Book(("x",)).beside(halves)
            self.assertEqual(sorts_of(more), ("tree", "lazy", "peak"))
            self.assertEqual(sorts_of(Book(("y",)).against(more)), ("tree", "lazy"))
            self.assertEqual(sorts_of(Book.of("y; y-y").beside(halves)), ("tree", "peak"))
            self.assertEqual(sorts_of(deep_book(kinds, 3)), ("tree",))
            self.assertEqual(sorts_of(Book(kinds, list(zip(kinds, kinds[1:])))), ())

    def test_by_names(self):
        book = Book.of("a b d; a-d b-b b-d")
        self.assertEqual(sorts_of(book=book), ("tree", "lazy"))
        self.assertIs(is_of(book=book, sort="lazy"), True)


class HowMany(unittest.TestCase):

    def test_against_a_count(self):
        for number in range(5):
            books = list(all_books(tuple("abcd"[:number])))
            for sort in SORTS:
                self.assertEqual(how_many(sort, number), sum(sort in told_sorts(book) for book in books))

    def test_against_books_of(self):
        for number in range(4):
            for sort in SORTS:
                self.assertEqual(how_many(sort, number), len(books_of(sort, ("b", "ca", "d")[:number])))

    def test_five_kinds_by_another_count(self):
        # Of books without a four up to another naming: 5 kinds, told by how many books they are.
        trees = {0: {()}, 1: {("o", 0), ("o", 1)}}
        for number in range(2, 6):
            trees[number] = set()
            for word, other in (("side", "against"), ("against", "side")):
                for parts in multisets(trees, number, other):
                    trees[number].add((word, *parts))
        for number in range(6):
            found = sum(named(tree, number) for tree in trees[number])
            self.assertEqual(how_many("tree", number), found)
        self.assertEqual(how_many("tree", 5), 15104)

    def test_to_thirty(self):
        # exp(exp(x) - 1 + x) has the numbers of Bell: in how many ways number + 1 things fall into lots.
        bell = [1]
        row = [1]
        for number in range(31):
            row = [row[-1], *row]
            for at in range(1, len(row)):
                row[at] += row[at - 1]
            bell.append(row[0])
        for number in range(31):
            self.assertEqual(how_many("moment", number), bell[number + 1])
            if number:
                self.assertEqual(how_many("lots", number), 2 * bell[number + 1] - 2)
            many = [how_many(sort, number) for sort in SORTS]
            self.assertGreaterEqual(many[0], max(many[1:3]))
            self.assertGreaterEqual(min(many[1:3]), many[3])
            self.assertGreaterEqual(many[3], many[4])
        # Cographs with their kinds told, each kind selfish or not.
        self.assertEqual([how_many("tree", number) >> number for number in range(9)],
                         [1, 1, 2, 8, 52, 472, 5504, 78416, 1320064])

    def test_by_names(self):
        self.assertEqual(how_many(number=3, sort="lots"), 28)


def multisets(trees, number, word):
    """Two parts or more, with so many kinds together, ascending by repr, none of the other first word."""
    def step(left, least):
        if left == 0:
            yield ()
        for size in range(1, left + 1):
            for tree in sorted(trees.get(size, ()), key=repr):
                if (size, repr(tree)) >= least and tree[0] in ("o", word):
                    for rest in step(left - size, (size, repr(tree))):
                        yield (tree, *rest)
    for parts in step(number, (0, "")):
        if len(parts) > 1:
            yield parts


def size_of(tree):
    return 1 if tree[0] == "o" else sum(size_of(part) for part in tree[1:])


def named(tree, number):
    """In how many ways kinds can be given to a tree: all orders, by those that change nothing."""
    if number < 2:
        return 1
    found = 1
    for at in range(2, number + 1):
        found *= at
    return found // turns(tree)


def turns(tree):
    if tree[0] == "o":
        return 1
    found = 1
    for part in tree[1:]:
        found *= turns(part)
    for part in set(tree[1:]):
        for at in range(2, tree[1:].count(part) + 1):
            found *= at
    return found


class BooksOf(unittest.TestCase):

    def test_all_of_them(self):
        for kinds in ((), ("a",), ("a", "b"), ("ab", "b", "c")):
            books = sorted(all_books(kinds), key=lambda book: book.clashes)
            for sort in SORTS:
                found = books_of(sort, kinds)
                self.assertIs(type(found), list)
                self.assertEqual([book.text for book in found],
                                 [book.text for book in books if sort in told_sorts(book)])

    def test_edges(self):
        self.assertEqual([book.text for book in books_of("moment", ())], ["-"])
        self.assertEqual([book.text for book in books_of("moment", ("a",))], ["a", "a; a-a"])
        self.assertEqual(len(books_of("tree", ("a", "b", "c"))), 64)

    def test_lists_and_names(self):
        kinds = ["a", "b"]
        found = books_of(kinds=kinds, sort="moment")
        self.assertEqual(kinds, ["a", "b"])
        kinds.append("c")
        self.assertEqual(found, books_of("moment", ("a", "b")))
        found.clear()
        self.assertEqual(len(books_of("moment", ("a", "b"))), 5)


if __name__ == "__main__":
    unittest.main()
