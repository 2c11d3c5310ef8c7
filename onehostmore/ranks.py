"""Orders in which the jobs may come, kind by kind: which are fine for first-free."""

from onehostmore.books import clash_bits
from onehostmore.plain import ones


def bad_four(book, order):
    """The least four of which in the order a stands ahead of b, and d ahead of c; None if there is none."""
    place = {kind: at for at, kind in enumerate(order)}
    for found in _fours(book):
        if _is_bad(found, place):
            return found
    return None


def fine_order(book):
    """The least order without such a four; None if there is none."""
    return _least_fine(_fours(book), (), book.kinds)


def how_many_fine(book):
    """How many orders there are without such a four."""
    return _count_fine(_fours(book), (), book.kinds)


def _fours(book):
    """All fours of the book, ascending."""
    # Kinds that clash with themselves need no rule of their own: what is the same kind twice can not be gone on with.
    clash = clash_bits(book)
    found = [(a, b, c, d) for a in range(len(clash)) for b in ones(clash[a])
             for c in ones(clash[b] & ~clash[a])
             for d in ones(clash[c] & ~clash[a] & ~clash[b]) if a < d]
    return [tuple([book.kinds[at] for at in four]) for four in found]


def _is_bad(four, place):
    """Whether a stands ahead of b, and d ahead of c; kinds that have no place yet come behind all that have one."""
    a, b, c, d = [place.get(kind, len(place)) for kind in four]
    return a < b and d < c


def _next_kinds(fours, order, left):
    """Those of the kinds that are left which can come next in an order without a bad four."""
    found = []
    for kind in left:
        place = {one: at for at, one in enumerate((*order, kind))}
        if not any([_is_bad(four, place) for four in fours]):
            found.append(kind)
    return found


def _least_fine(fours, order, left):
    """The least order without a bad four that begins like this one; None if there is none."""
    if not left:
        return order
    for kind in _next_kinds(fours, order, left):
        found = _least_fine(fours, (*order, kind), [one for one in left if one != kind])
        if found is not None:
            return found
    return None


def _count_fine(fours, order, left):
    """How many orders without a bad four begin like this one."""
    if not left:
        return 1
    found = 0
    for kind in _next_kinds(fours, order, left):
        found += _count_fine(fours, (*order, kind), [one for one in left if one != kind])
    return found
