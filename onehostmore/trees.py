"""TREEs: what stands beside and against one another in a book without a four."""

from onehostmore.books import Book, clash_bits
from onehostmore.errors import BadText, NoKind, NoTree
from onehostmore.patterns import four
from onehostmore.plain import is_kind, is_number, ones

TURNED = {"side": "against", "against": "side"}
BRACKETS = {"side": "()", "against": "[]"}
WORDS_IN = {"(": "side", "[": "against"}


def has_tree(book):
    """Whether the book has a TREE."""
    return _is_whole(parted(book, book.kinds))


def tree_of(book):
    """The TREE of the book; raises NoTree with its least four if it has none."""
    tree = parted(book, book.kinds)
    if not _is_whole(tree):
        raise NoTree(four(book))
    return tree


def parted(book, kinds):
    """The TREE of these kinds of the book, but with a part ("piece", kinds) where kinds can not be parted."""
    left = sum([1 << at for at, kind in enumerate(book.kinds) if kind in kinds])
    return _parted(book, clash_bits(book), left) if left else ("none",)


def _parted(book, clash, left):
    """The part of the kinds whose places are the ones of left."""
    places = ones(left)
    if len(places) == 1:
        return ("one", book.kinds[places[0]], clash[places[0]] >> places[0] & 1)
    word = "side"
    groups = _hanging(clash, left)
    if len(groups) == 1:
        word = "against"
        groups = _hanging([~bits for bits in clash], left)
    if len(groups) == 1:
        return ("piece", tuple([book.kinds[at] for at in places]))
    return (word, *sorted([_parted(book, clash, group) for group in groups]))


def _hanging(near, left):
    """What left falls into, as bits, near telling for each place those that are one step away."""
    found = []
    while left:
        group = fresh = left & -left
        while fresh:
            reached = 0
            for at in ones(fresh):
                reached = reached | near[at]
            fresh = reached & left & ~group
            group = group | fresh
        found.append(group)
        left = left & ~group
    return found


def leaves(part):
    """The parts of a TREE, or of what parted tells, that have no parts themselves."""
    if part[0] in TURNED:
        return [leaf for below in part[1:] for leaf in leaves(below)]
    return [] if part[0] == "none" else [part]


def _is_whole(part):
    return all([leaf[0] == "one" for leaf in leaves(part)])


def is_tree(thing):
    """Whether thing is a TREE."""
    if not _is_part(thing):
        return thing == ("none",)
    kinds = [leaf[1] for leaf in leaves(thing)]
    return len(set(kinds)) == len(kinds)


def _is_part(thing):
    """Whether thing is a part, maybe one in which a KIND stands twice."""
    if not isinstance(thing, tuple) or len(thing) < 3:
        return False
    word, *parts = thing
    if word == "one":
        return len(parts) == 2 and is_kind(parts[0]) and is_number(parts[1]) and parts[1] in (0, 1)
    # A tuple, unlike a dict, can be asked for any thing at all.
    if word not in ("side", "against") or not all([_is_part(part) and part[0] != word for part in parts]):
        return False
    return all([parts[at] < parts[at + 1] for at in range(len(parts) - 1)])


def tree_kinds(tree):
    """The set of the kinds of a TREE."""
    return tuple(sorted([leaf[1] for leaf in leaves(tree)]))


def book_of(tree):
    """The Book that a TREE tells."""
    return Book(tree_kinds(tree), _clashes_in(tree))


def _clashes_in(part):
    """The pairs that clash in a TREE or a part, in any order."""
    if part[0] not in TURNED:
        return [(leaf[1], leaf[1]) for leaf in leaves(part) if leaf[2] == 1]
    found = [pair for below in part[1:] for pair in _clashes_in(below)]
    if part[0] == "against":
        kinds = [tree_kinds(below) for below in part[1:]]
        for at, ahead in enumerate(kinds):
            found.extend([(one, other) for behind in kinds[at + 1:] for one in ahead for other in behind])
    return found


def meeting_word(tree, one, other):
    """The first word of the least part that has both kinds."""
    kinds = tree_kinds(tree)
    for kind in (one, other):
        if kind not in kinds:
            raise NoKind(kind)
    inner = [tree]
    while inner:
        part = inner[0]
        inner = [below for below in part[1:] if one in tree_kinds(below) and other in tree_kinds(below)]
    return part[0]


def turned_tree(tree):
    """The TREE of the Book that is turned."""
    if tree[0] == "none":
        return ("none",)
    if tree[0] == "one":
        return ("one", tree[1], 1 - tree[2])
    # Turned parts may stand in another order: "against" is less than "one", "side" is greater.
    return (TURNED[tree[0]], *sorted([turned_tree(below) for below in tree[1:]]))


def tree_text(tree):
    """The TREE as a text: a star marks a selfish kind, round brackets a "side", square ones an "against"."""
    if tree[0] == "none":
        return "-"
    if tree[0] == "one":
        return tree[1] + "*" * tree[2]
    left, right = BRACKETS[tree[0]]
    return left + " ".join([tree_text(below) for below in tree[1:]]) + right


def tree_in(text):
    """The TREE with just this text."""
    tree = ("none",) if text == "-" else _part_in(text)
    # What was read too kindly shows: it is no TREE, or has another text.
    if not is_tree(tree) or tree_text(tree) != text:
        raise BadText()
    return tree


def _part_in(text):
    """The part with which a text begins, read kindly; None if there is none."""
    for bracket in "([":
        text = text.replace(bracket, bracket + " ")
    for bracket in ")]":
        text = text.replace(bracket, " " + bracket)
    within = [[]]
    for word in text.split(" "):
        if word in WORDS_IN:
            within.append([WORDS_IN[word]])
        elif word not in (")", "]"):
            within[-1].append(("one", word.rstrip("*"), int(word.endswith("*"))))
        elif len(within) > 1:
            part = within.pop()
            within[-1].append(tuple(part))
    return within[0][0] if within[0] else None


def least_out(book):
    """The least of the sets with fewest kinds without which the book has a TREE."""
    sets = [ones(bits) for bits in range(1 << len(book))]
    least = ()
    for _, out in sorted([(len(places), places) for places in sets]):
        least = tuple([book.kinds[at] for at in out])
        if _is_whole(parted(book, [kind for kind in book.kinds if kind not in least])):
            break
    return least
