"""Clashes given up or added, such that a book is of some sort."""

from onehostmore.books import Book
from onehostmore.crowds import ask_for
from onehostmore.sorts import is_of


def changed(book, pairs):
    """The Book in which each of these pairs that clashes here is at peace, and each that is at peace clashes."""
    ask_for(book, [kind for pair in pairs for kind in pair])
    return Book(book.kinds, sorted(set(book.clashes) ^ {(min(pair), max(pair)) for pair in pairs}))


def all_changes(book, sort, way):
    """All sets of fewest pairs by whose change the book is of this sort, ascending."""
    pairs = _pairs(book, way)
    many = 0
    found = []
    while not found:
        found = [chosen for chosen in _choices(pairs, many) if is_of(sort, changed(book, chosen))]
        many += 1
    return found


def least_change(book, sort, way):
    """The least set of fewest pairs by whose change the book is of this sort."""
    return all_changes(book, sort, way)[0]


def _pairs(book, way):
    """The pairs of kinds that may be changed, ascending."""
    if way == "give":
        return list(book.clashes)
    if way == "add":
        return list(book.turned().clashes)
    return [(one, other) for at, one in enumerate(book.kinds) for other in book.kinds[at:]]


def _choices(rows, many):
    """All ways to choose so many of the rows, as tuples, in the order of the rows."""
    if many == 0:
        return [()]
    return [(row, *rest) for at, row in enumerate(rows) for rest in _choices(rows[at + 1:], many - 1)]
