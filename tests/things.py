"""Things of all kinds, for parameters called `thing`, and books to ask."""

import random
import unittest

from onehostmore.board import Board
from onehostmore.books import Book
from onehostmore.errors import BadText, NoKind, NoTree, Stopped
from onehostmore.keepers import Keeper


def nested(inner, depth, wrap=tuple):
    for _ in range(depth):
        inner = wrap([inner])
    return inner


# None of these is a KIND or a tuple of KINDs alone.
STRANGE = [
    True, False, None, 0, 1, -1, 3, 10 ** 40, "", " ", "-", "A", "a b", "a1", "a_b", "a-b", "a\n", "\n", "\u00e9",
    "\u0430", "\uff41", "a\u0301", "\u00aa", "\u00df", "\u0131", "0", "None",
    [], (), [[]], ((),), ["a"], ["a", "b"], ["a", "b", "c"], ["a", "b", "c", "d"], ["a", "b", "c", "d", "e"],
    (None,), (True, False, True), (1, 2, 3), (0, 1, 2, 3), (0, 1, 2, 3, 4), ("a", 1, "b"), ("a", "b", None),
    ("a", True, "b", "c"), ("a", "b", "c", ()), ("a", "b", "c", "d", []), (["a"], ["b"], ["c"]), (("a", "b", "c"),),
    [("a", "b", "c")], (("a",), ("b",), ("c",), ("d",)), ("a", ["b", "c"], "d"), ("a", "", "b"), ("A", "B", "C"),
    Book(()), Book(("a",)), Book.of("a b c; b-c"), NoKind("a"), BadText(), NoTree(("a", "b", "c", "d")),
    Stopped(1, "NoJob", 0), (Book(()), Book(()), Book(())), (Book(("a",)),) * 4, (Book(("a",)),) * 5,
    Board(), Board(("z",)), (Board(), Board(), Board()), (Board(("a",)),) * 4, ("a", Board(("b",)), "c"), [Board()],
    (Keeper("first"),), (Keeper("last"),) * 3, ("come", Board(("z",)), 0), (("come", Keeper("full"), 0),), nested(Board(), 11),
    ("a", Book(("b",)), "c"), (NoKind("a"), "b", "c", "d"), nested("a", 11), nested("a", 12), nested("a", 12, list),
    nested((), 11), nested(("a", "b", "c"), 11), nested(("a", "b", "c", "d"), 11), nested([True], 11), nested(None, 12),
    ("a", "b", nested("c", 11)), ("a", "b", "c", nested("d", 11)), (nested("a", 11, list),) * 5,
]


def pairs_of(kinds):
    return [(one, other) for one in kinds for other in kinds if one <= other]


def all_books(kinds):
    """Each Book with just these kinds."""
    pairs = pairs_of(kinds)
    for number in range(2 ** len(pairs)):
        yield Book(kinds, [pair for at, pair in enumerate(pairs) if number >> at & 1])


def some_books(kinds, many, seed):
    """So many Books with these kinds, from those with few clashes to those with many; always the same ones."""
    source = random.Random(seed)
    for _ in range(many):
        share = source.random()
        own = source.random()
        yield Book(kinds, [pair for pair in pairs_of(kinds)
                           if source.random() < (own if pair[0] == pair[1] else share)])


def many_kinds(many):
    """So many KINDs, ascending: aa, ab, .."""
    return tuple([chr(97 + at // 26) + chr(97 + at % 26) for at in range(many)])


def deep_book(kinds, step):
    """A Book with a deep TREE: each kind beside or against all ahead of it; each so manyth one is selfish."""
    book = Book(())
    for at, kind in enumerate(kinds):
        one = Book((kind,), ((kind, kind),) if at % step == 0 else ())
        book = book.against(one) if at & 1 else book.beside(one)
    return book


def some_row(source, kinds, length):
    """A ROW of so many deeds of these kinds, comings and goings; always the same one of the same source."""
    row, present, came = [], [], 0
    while len(row) < length and (kinds or present):
        if present and (not kinds or source.random() < 0.4):
            job = present.pop(source.randrange(len(present)))
            row.append(("go", job))
        else:
            row.append(("come", source.choice(kinds)))
            present.append(came)
            came += 1
    return tuple(row)


def lists_for(value):
    """The value with lists for tuples, at any depth."""
    return [lists_for(part) for part in value] if isinstance(value, (list, tuple)) else value


def bent_things(thing, others):
    """Things that differ from a nested tuple in one place: one part is another one, is left out, stands twice ..."""
    yield from others
    if isinstance(thing, tuple):
        yield list(thing)
        yield lists_for(thing)
        yield (thing,)
        for at, part in enumerate(thing):
            yield (*thing[:at], *thing[at + 1:])
            yield (*thing[:at + 1], *thing[at:])
            yield (*thing[:at], *thing[at:][::-1])
            for other in bent_things(part, others):
                yield (*thing[:at], other, *thing[at + 1:])


class Refusing(unittest.TestCase):

    def refuses(self, error, kept, act, *given, **named):
        """The call raises just this error, which keeps just this."""
        with self.assertRaises(error) as caught:
            act(*given, **named)
        self.assertIs(type(caught.exception), error)
        self.assertEqual(repr(vars(caught.exception)), repr(kept))
