"""SENSEs: whether keepers can be made to waste hosts, and the ROWs that do it."""

from onehostmore.books import shortened
from onehostmore.crowds import allowed
from onehostmore.patterns import bent, four, pair_and_three, paw, third
from onehostmore.sorts import books_of, is_of

DEEDS = ("comings", "goings")
MEASURES = ("moment", "peak")
WHO = ("first", "lazy", "some")

# Each sort with the sorts of which each book of this sort is.
WITHIN = {
    "tree": ("tree",),
    "lazy": ("tree", "lazy"),
    "peak": ("tree", "peak"),
    "lots": ("tree", "lazy", "peak", "lots"),
    "moment": ("tree", "lazy", "peak", "lots", "moment"),
}


def is_sense(thing):
    """Whether thing is a SENSE."""
    return (isinstance(thing, tuple) and len(thing) == 3
            and thing[0] in DEEDS and thing[1] in MEASURES and thing[2] in WHO)


def sort_of(sense):
    """The sort of the Books with which no ROW beats in this SENSE."""
    deeds, measure, who = sense
    if deeds == "comings":
        return "lazy" if who == "lazy" else "tree"
    if measure == "moment":
        return "moment"
    return "peak" if who == "some" else "lots"


def never(book, sense):
    """Whether no ROW, however long, beats in this SENSE."""
    return is_of(sort_of(sense), book)


def all_never(book):
    """All SENSEs in which no ROW beats, ascending."""
    senses = [(deeds, measure, who) for deeds in DEEDS for measure in MEASURES for who in WHO]
    return tuple([sense for sense in senses if never(book, sense)])


def follows(one, other):
    """Whether for all Books for which never is so in the one SENSE it is so in the other one."""
    return sort_of(other) in WITHIN[sort_of(one)]


def parting_book(one, other):
    """The least Book for which never is so in the one SENSE and not in the other one; None if there is none."""
    for many in range(4):
        for book in books_of(sort_of(one), ("a", "b", "c")[:many]):
            if not never(book, other):
                return book
    return None


def how_long(book, sense):
    """How many deeds a ROW that beats has at the least; None if no ROW beats."""
    row = row_against(book, sense)
    return None if row is None else len(row)


def row_against(book, sense):
    """A ROW with as few deeds as can be that beats in this SENSE; None if no ROW does."""
    deeds, measure, who = sense
    if never(book, sense):
        return None
    if (deeds, measure) == ("goings", "moment"):
        a, b, c = third(book)
        return (*_comings(a, b, c), ("go", 1))
    found = four(book)
    if found is not None:
        a, b, c, d = found
        return _comings(a, d, b, c)
    if deeds == "comings":
        return _row_of_pair_and_three(book)
    found = paw(book)
    if found is not None:
        a, b, c, d = found
        return (*_comings(a, b, c), ("go", 1), ("come", d))
    if who == "lazy" and not is_of("lazy", book):
        return _row_of_pair_and_three(book)
    return _row_of_loner(book)


def _comings(*kinds):
    return tuple([("come", kind) for kind in kinds])


def _row_of_pair_and_three(book):
    """A lazy keeper parts x and y, each of them beside another one of p and q; so z stands on a third host."""
    # The least kinds of the classes are enough, and they are quicker to look through.
    p, q, x, z, y = pair_and_three(shortened(book))
    return _comings(p, q, x, y, z)


def _row_of_loner(book):
    """First-free puts a loner, at peace with a bent three, beside z, and y beside the loner when z has gone."""
    # Without a paw there is no third in a knot: so a third and a bent three mean two knots, one with a bent three.
    x, z, y = bent(book)
    calm = [kind for kind in book.peaceful(x) if kind in book.peaceful(y) and kind in book.peaceful(z)]
    return (*_comings(z, x, calm[0]), ("go", 0), *_comings(y, z))


def beats(book, sense, row):
    """Whether the ROW beats in this SENSE."""
    deeds, measure, who = sense
    if who == "some":
        beaten = least_waste(book, row, measure) > 0
    else:
        beaten = _wasted(book, row, allowed(book, row, measure), who)
    return beaten and not (deeds == "comings" and "go" in [word for word, _ in row])


def least_waste(book, row, measure):
    """The least number for which some keeper's waste behind no deed of the ROW is greater."""
    bounds = allowed(book, row, measure)
    waste = 0
    while not _can_keep(book, row, [bound + waste for bound in bounds]):
        waste += 1
    return waste


def _can_keep(book, row, bounds):
    """Whether some keeper has behind no deed more hosts open than bounds tells."""
    states = [()]
    for at in range(len(row)):
        states = [state for state in _behind(book, row, at, states, "some") if len(state) <= bounds[at]]
    return bool(states)


def _wasted(book, row, bounds, who):
    """Whether first-free, or some lazy keeper, has behind some deed more hosts open than bounds tells."""
    states = [()]
    for at in range(len(row)):
        states = _behind(book, row, at, states, who)
        if any([len(state) > bounds[at] for state in states]):
            return True
    return False


def _behind(book, row, at, states, who):
    """All that can stand behind the deed at this place, if one of the states was there ahead of it, each once.

    A state tells the open hosts, as they were opened, each by its pairs (job, KIND).
    """
    word, what = row[at]
    found = {}
    for state in states:
        if word == "go":
            left = [tuple([pair for pair in host if pair[0] != what]) for host in state]
            found[tuple([host for host in left if host])] = True
        else:
            job = len([deed for deed in row[:at] if deed[0] == "come"])
            for place in _places(book.clashing(what), state, who):
                host = (*state[place], (job, what)) if place < len(state) else ((job, what),)
                hosts = (*state[:place], host, *state[place + 1:])
                found[hosts] = True
    return list(found)


def _places(clashing, state, who):
    """The places of the hosts on which such a keeper may put a job that clashes with these KINDs."""
    free = [at for at, host in enumerate(state) if not any([kind in clashing for _, kind in host])]
    if who == "some" or not free:
        return [*free, len(state)]
    return free[:1] if who == "first" else free
