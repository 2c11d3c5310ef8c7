"""The most hosts that first-free ever opens, and the most that it ever wastes, if jobs only come."""

from onehostmore.books import clash_bits
from onehostmore.errors import Selfish
from onehostmore.plain import ones
from onehostmore.trees import leaves, parted


def pieces(book):
    """The sets of the kinds of the pieces of the book, ascending."""
    found = leaves(parted(book, book.kinds))
    return tuple(sorted([leaf[1] if leaf[0] == "piece" else (leaf[1],) for leaf in found]))


def is_spread(book, thing):
    """Whether thing is a SPREAD of the book."""
    if not isinstance(thing, tuple) or not all([_is_host(book, part) for part in thing]):
        return False
    kinds = row_of(thing)
    return len(set(kinds)) == len(kinds)


def _is_host(book, thing):
    """Whether thing is a set, other than (), of kinds of the book no two of which clash."""
    if not isinstance(thing, tuple) or thing == () or not all([kind in book for kind in thing]):
        return False
    pairs = [(one, other) for at, one in enumerate(thing) for other in thing[at + 1:]]
    return all([one < other and not book.clash(one, other) for one, other in pairs])


def is_pile(book, thing):
    """Whether thing is a PILE of the book."""
    if not is_spread(book, thing):
        return False
    pairs = [(kind, ahead) for at, host in enumerate(thing) for kind in host for ahead in thing[:at]]
    return all([any([book.clash(kind, other) for other in ahead]) for kind, ahead in pairs])


def row_of(pile):
    """The kinds of a PILE, set by set."""
    return tuple([kind for host in pile for kind in host])


def most_hosts(book):
    """The greatest number of hosts that first-free ever has open; raises Selfish."""
    return len(tallest(book))


def tallest(book):
    """A PILE with as many sets as can be; raises Selfish."""
    refuse_selfish(book)
    return _tallest(book, parted(book, book.kinds))


def most_waste(book):
    """The greatest waste that first-free ever has; raises Selfish."""
    refuse_selfish(book)
    return _wasting(book, parted(book, book.kinds))[0]


def wasting_row(book):
    """Unlike kinds behind whose coming first-free has its greatest waste; () if that is 0; raises Selfish."""
    refuse_selfish(book)
    return _wasting(book, parted(book, book.kinds))[1]


def refuse_selfish(book):
    """Raises Selfish with the least selfish kind, if there is one."""
    if book.selfish:
        raise Selfish(book.selfish[0])


def _tallest(book, part):
    """A PILE of one part, as parted tells it, with as many sets as can be."""
    if part[0] == "none":
        return ()
    if part[0] == "one":
        return ((part[1],),)
    if part[0] == "piece":
        return _tallest_of_piece(book.only(part[1]))
    below = [_tallest(book, inner) for inner in part[1:]]
    if part[0] == "side":
        return max(below, key=len)
    return tuple([host for pile in below for host in pile])


def _wasting(book, part):
    """The pair (waste, row) of one part: the greatest waste, and kinds by whose coming it comes about."""
    if part[0] in ("none", "one"):
        return (0, ())
    if part[0] == "piece":
        return _wasting_of_piece(book.only(part[1]))
    below = [_wasting(book, inner) for inner in part[1:]]
    if part[0] == "side":
        return max(below)
    return (sum([waste for waste, _ in below]), tuple([kind for _, row in below for kind in row]))


def _tallest_of_piece(book):
    clash = clash_bits(book)
    if _has_ring(book):
        return _named(book, _piles(clash)[-1])
    # A kind that hangs together with the others by clashes alone: each kind may be the top of a PILE.
    tops = [(_height(clash, at, -1), at) for at in range(len(book))]
    height, top = max(tops)
    levels = [0 for _ in range(height)]
    for level, at in _grown(clash, top, -1, height):
        levels[level] = levels[level] | 1 << at
    return _named(book, levels)


def _wasting_of_piece(book):
    # What can not be parted has a four, so there always is some waste.
    if not _has_ring(book):
        # Without a ring of clashes two hosts are enough.
        pile = _tallest_of_piece(book)
        return (len(pile) - 2, row_of(pile))
    piles = _piles(clash_bits(book))
    needs = fewest(clash_bits(book))
    waste, kinds = max([(len(pile) - needs[at], at) for at, pile in enumerate(piles)])
    return (waste, row_of(_named(book, piles[kinds])))


def _has_ring(book):
    """Whether there is a ring of clashes in a book that hangs together by clashes."""
    return len(book.clashes) >= len(book)


def _named(book, levels):
    """A PILE that is told by the bits of its sets."""
    return tuple([tuple([book.kinds[at] for at in ones(bits)]) for bits in levels])


def _height(clash, top, above):
    """How many sets a PILE can have that has this kind in its last set and needs nothing that hangs on above."""
    height = 1
    for one in sorted([_height(clash, at, top) for at in ones(clash[top]) if at != above]):
        # Whatever can stand higher can stand on this level, too.
        if one >= height:
            height += 1
    return height


def _grown(clash, top, above, height):
    """The pairs (level, kind) of a PILE that has so many sets, this kind in its last one, and nothing from above."""
    found = [(height - 1, top)]
    level = 1
    for one, at in sorted([(_height(clash, at, top), at) for at in ones(clash[top]) if at != above]):
        if level < height and one >= level:
            found.extend(_grown(clash, at, top, level))
            level += 1
    return found


def _lowest_sets(clash):
    """For each set of kinds, told by bits: those of its parts, as bits, at peace, with which each other one clashes."""
    size = 1 << len(clash)
    near = [0]
    for bits in range(1, size):
        lowest = (bits & -bits).bit_length() - 1
        near.append(near[bits & (bits - 1)] | clash[lowest])
    calm = [bits for bits in range(1, size) if not near[bits] & bits]
    found = [[] for _ in range(size)]
    for bits in calm:
        # All that one comes to by adding, to this set, kinds that clash with it.
        more = near[bits]
        while more:
            found[bits | more].append(bits)
            more = (more - 1) & near[bits]
        found[bits].append(bits)
    return found


def _piles(clash):
    """For each set of kinds, told by bits, a PILE of all of them with as many sets as can be."""
    found = [[]]
    for bits, lowest in enumerate(_lowest_sets(clash)):
        if bits > 0:
            found.append(max([[low, *found[bits & ~low]] for low in lowest], key=len))
    return found


def fewest(clash):
    """For each set of kinds, told by bits, its need."""
    found = [0]
    for bits, lowest in enumerate(_lowest_sets(clash)):
        if bits > 0:
            found.append(1 + min([found[bits & ~low] for low in lowest]))
    return found
