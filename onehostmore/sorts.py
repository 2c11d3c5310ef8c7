"""The five sorts of books: which book is of which, and how many there are."""

from math import comb

from onehostmore.books import Book
from onehostmore.plain import ones
from onehostmore.trees import leaves, parted

SORTS = ("tree", "lazy", "peak", "lots", "moment")

# What a part of a TREE may have in it: two jobs that clash, a kind that is not selfish, and the patterns.
CLASH = 1
CALM = 2
BENT = 4
THIRD = 8
PAW = 16
PAIR_AND_THREE = 32


def is_of(sort, book):
    """Whether the book is of this sort."""
    return sort in sorts_of(book)


def sorts_of(book):
    """The sorts that the book is of, in the order of SORTS."""
    tree = parted(book, book.kinds)
    if any([leaf[0] == "piece" for leaf in leaves(tree)]):
        return ()
    marks = _marks(tree)
    without = {
        "tree": True,
        "lazy": not marks & PAIR_AND_THREE,
        "peak": not marks & PAW,
        "lots": not marks & THIRD or not marks & BENT,
        "moment": not marks & THIRD,
    }
    return tuple([sort for sort in SORTS if without[sort]])


def _marks(part):
    """What a TREE, or a part of one, has in it."""
    if part[0] == "none":
        return 0
    if part[0] == "one":
        return CLASH if part[2] == 1 else CALM
    below = [_marks(inner) for inner in part[1:]]
    found = 0
    for marks in below:
        found = found | marks
    if part[0] == "side":
        return found | _side_marks(below)
    # Against a kind stands a bent three if one is not selfish, or two are at peace; against a third stands a paw.
    bent = BENT if found & CALM or any([inner[0] == "side" for inner in part[1:]]) else 0
    paw = PAW if found & THIRD else 0
    return found | CLASH | bent | paw


def _side_marks(below):
    """What comes about by parts with these marks being beside one another."""
    clashing = [marks for marks in below if marks & CLASH]
    third = THIRD if clashing else 0
    # Where a bent three is, a clash is, too: so this is a bent three in one part, a clash in another one.
    pair_and_three = PAIR_AND_THREE if len(clashing) > 1 and any([marks & BENT for marks in below]) else 0
    return third | pair_and_three


def how_many(sort, number):
    """How many books of this sort have just so many kinds, these being told."""
    counts = COUNTS[sort]
    return counts(number)[number]


def books_of(sort, kinds):
    """All Books of this sort with just these kinds, ascending by their clashes."""
    pairs = [(one, other) for at, one in enumerate(kinds) for other in kinds[at:]]
    sets = sorted([[pairs[at] for at in ones(bits)] for bits in range(1 << len(pairs))])
    books = [Book(kinds, clashes) for clashes in sets]
    return [book for book in books if is_of(sort, book)]


def _joined(blocks, sets, number):
    """In how many ways so many kinds fall into two blocks or more.

    blocks tells for each number in how many ways so many kinds are one block, sets in how many they are blocks.
    """
    # The block of the first kind has size - 1 others.
    return sum([comb(number - 1, size - 1) * blocks[size] * sets[number - size] for size in range(1, number)])


def _sets(blocks):
    """For each number up to the last one that blocks tells: in how many ways so many kinds are blocks."""
    found = [1]
    for number in range(1, len(blocks)):
        found.append(_joined(blocks, found, number) + blocks[number])
    return found


def _plain_blocks(number):
    """Of a "moment" the blocks that stand against one another: one kind, or some at peace that are not selfish.

    Turned, these are the knots of a book without a bent three, so they are as many.
    """
    return [0, 2, *[1 for _ in range(number)]]


def _count_tree(number):
    # Knots of two kinds or more are as many as books of two knots or more: turn them.
    blocks = [0, 2]
    sets = [1, 2]
    for size in range(2, number + 1):
        blocks.append(_joined(blocks, sets, size))
        sets.append(2 * blocks[size])
    return sets


def _count_moment(number):
    return _sets(_plain_blocks(number))


def _count_peak(number):
    # The knots are books of "moment": one kind, or two blocks or more against one another.
    blocks = _plain_blocks(number)
    knots = [all_of - one for all_of, one in zip(_sets(blocks), blocks)]
    return _sets([0, 2, *knots[2:]])


def _count_lots(number):
    # Without a third, or without a bent three; without both are one kind, or all at peace, or all clashing.
    return [1, 2, *[2 * many - 2 for many in _count_moment(number)[2:]]]


def _count_lazy(number):
    # Beside one another are parts without a bent three, or one with it and some kinds that are not selfish.
    blocks = _plain_blocks(number)
    without_bent = _sets(blocks)
    child = [0, 2]
    against = [0, 0]
    sets = [1, 2]
    for size in range(2, number + 1):
        with_bent = sum([comb(size, inner) * (against[inner] - 1) for inner in range(2, size)])
        child.append(without_bent[size] - blocks[size] + with_bent)
        against.append(_joined(child, sets, size))
        sets.append(child[size] + against[size])
    return sets


COUNTS = {"tree": _count_tree, "lazy": _count_lazy, "peak": _count_peak, "lots": _count_lots, "moment": _count_moment}
