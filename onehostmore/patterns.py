"""The five patterns of kinds: third, bent three, four, paw, pair and three.

A pattern is told by how many places it has; by the pairs of places whose KINDs clash, all others being at peace;
and by the pairs of places the first of whose KINDs is not greater than the second one.
A KIND clashes here with itself exactly if it is selfish. So it needs no rule of its own which KINDs may be the same:
where they must be unlike, a third place clashes with the one and is at peace with the other;
where they may be the same, the pair clashes (is at peace) only if the KIND is selfish (is not selfish).
"""

from onehostmore.books import clash_bits
from onehostmore.plain import ones

THIRD = (3, ((1, 2),), ((1, 2),))
BENT = (3, ((0, 1), (1, 2)), ((0, 2),))
FOUR = (4, ((0, 1), (1, 2), (2, 3)), ((0, 3),))
PAW = (4, ((0, 3), (1, 2), (1, 3), (2, 3)), ((1, 2),))
PAIR_AND_THREE = (5, ((0, 1), (2, 3), (3, 4)), ((0, 1), (2, 4)))


def third(book):
    """The least third; None if there is none."""
    return _least(book, THIRD)


def bent(book):
    """The least bent three; None if there is none."""
    return _least(book, BENT)


def four(book):
    """The least four; None if there is none."""
    return _least(book, FOUR)


def paw(book):
    """The least paw; None if there is none."""
    return _least(book, PAW)


def pair_and_three(book):
    """The least pair and three; None if there is none."""
    return _least(book, PAIR_AND_THREE)


def is_third(book, thing):
    """Whether thing is a third of the book."""
    return _is_such(book, THIRD, thing)


def is_bent(book, thing):
    """Whether thing is a bent three of the book."""
    return _is_such(book, BENT, thing)


def is_four(book, thing):
    """Whether thing is a four of the book."""
    return _is_such(book, FOUR, thing)


def is_paw(book, thing):
    """Whether thing is a paw of the book."""
    return _is_such(book, PAW, thing)


def is_pair_and_three(book, thing):
    """Whether thing is a pair and three of the book."""
    return _is_such(book, PAIR_AND_THREE, thing)


def _is_such(book, pattern, thing):
    size, clashing, rising = pattern
    if not isinstance(thing, tuple) or len(thing) != size or not all([kind in book for kind in thing]):
        return False
    if any([thing[low] > thing[high] for low, high in rising]):
        return False
    pairs = [(one, other) for other in range(size) for one in range(other)]
    return all([book.clash(thing[one], thing[other]) == ((one, other) in clashing) for one, other in pairs])


def _least(book, pattern):
    """The least tuple of KINDs that is of this pattern; None if there is none."""
    # Which KIND is not greater needs no look: what fits fits also turned round, and of both the least rises.
    chosen = _filled(clash_bits(book), pattern, [])
    if chosen is None:
        return None
    return tuple([book.kinds[at] for at in chosen])


def _filled(clash, pattern, chosen):
    """The least kinds, told by their places in the book, that begin with chosen and fill the pattern, or None."""
    if len(chosen) == pattern[0]:
        return chosen
    for at in ones(_fitting(clash, pattern, chosen)):
        found = _filled(clash, pattern, [*chosen, at])
        if found is not None:
            return found
    return None


def _fitting(clash, pattern, chosen):
    """The kinds, as bits, that fit as the next one behind chosen."""
    _, clashing, _ = pattern
    fitting = (1 << len(clash)) - 1
    here = len(chosen)
    for there, at in enumerate(chosen):
        fitting = fitting & (clash[at] if (there, here) in clashing else ~clash[at])
    return fitting
