"""Books: which kinds of jobs clash, and how kinds hang together."""

from onehostmore.errors import BadText, Known, NoKind, OtherKinds, Twice
from onehostmore.plain import is_kind


class Book:
    """Some kinds, and which of them clash, with one another or with themselves; it does not change."""

    def __init__(self, kinds, clashes=()):
        near = {}
        for kind in kinds:
            if kind in near:
                raise Twice(kind)
            near[kind] = []
        for pair in clashes:
            for kind in pair:
                if kind not in near:
                    raise NoKind(kind)
        self._kinds = tuple(sorted(near))
        self._clashes = tuple(sorted({(min(pair), max(pair)) for pair in clashes}))
        for one, other in self._clashes:
            near[one].append(other)
            if one != other:
                near[other].append(one)
        # The clashes ascend, so the kinds that clash with one kind were met ascending, too.
        self._near = {kind: tuple(near[kind]) for kind in near}

    @staticmethod
    def of(text):
        """The Book with just this text."""
        front, _, back = text.partition("; ")
        kinds = [] if front == "-" else front.split(" ")
        pairs = [part.split("-") for part in back.split(" ")] if back else []
        if not all([is_kind(kind) for kind in kinds]):
            raise BadText()
        try:
            book = Book(kinds, pairs)
        except (Twice, NoKind):
            raise BadText() from None
        # Parts that are no pairs, a wrong order, a pair too many, signs at the ends: all that shows in the text.
        if book.text != text:
            raise BadText()
        return book

    @property
    def kinds(self):
        """The set of the kinds."""
        return self._kinds

    @property
    def clashes(self):
        """All pairs of kinds that clash, ascending."""
        return self._clashes

    @property
    def selfish(self):
        """The set of the kinds that clash with themselves."""
        return tuple([kind for kind in self._kinds if kind in self._near[kind]])

    @property
    def text(self):
        """The kinds and the pairs of clashes, as Book.of reads them."""
        front = " ".join(self._kinds) if self._kinds else "-"
        if not self._clashes:
            return front
        back = " ".join([f"{one}-{other}" for one, other in self._clashes])
        return f"{front}; {back}"

    def __len__(self):
        return len(self._kinds)

    def __contains__(self, kind):
        # A tuple, unlike a dict, can be asked for any thing at all, as the patterns do.
        return kind in self._kinds

    def __eq__(self, other):
        return isinstance(other, Book) and self._kinds == other._kinds and self._clashes == other._clashes

    def _ask_for(self, kinds):
        for kind in kinds:
            if kind not in self._near:
                raise NoKind(kind)

    def clash(self, one, other):
        """Whether the two kinds clash."""
        self._ask_for((one, other))
        return other in self._near[one]

    def clashing(self, kind):
        """The set of the kinds that clash with this one, maybe itself, too."""
        self._ask_for((kind,))
        return self._near[kind]

    def peaceful(self, kind):
        """The set of the other kinds that are at peace with this one."""
        self._ask_for((kind,))
        return tuple([other for other in self._kinds if other != kind and other not in self._near[kind]])

    def within(self, other):
        """Whether all that clash by this Book clash by the other one."""
        apart = sorted(set(self._kinds) ^ set(other.kinds))
        if apart:
            raise OtherKinds(apart[0])
        return all([other.clash(low, high) for low, high in self._clashes])

    def only(self, kinds):
        """The Book with these kinds alone."""
        self._ask_for(kinds)
        return Book(kinds, [(one, other) for one, other in self._clashes if one in kinds and other in kinds])

    def without(self, kind):
        """The Book without this kind."""
        self._ask_for((kind,))
        return self.only([other for other in self._kinds if other != kind])

    def with_kind(self, kind, clashing):
        """The Book with one kind more, which clashes with just these."""
        if kind in self._near:
            raise Known(kind)
        # Book itself raises NoKind, and the first pair to which it can object is one of the new ones.
        return Book((*self._kinds, kind), [*self._clashes, *[(kind, other) for other in clashing]])

    def copied(self, kind, new):
        """The Book with one kind more, alike to this one."""
        near = self.clashing(kind)
        # Alike kinds clash with one another exactly if they clash with themselves.
        return self.with_kind(new, (*near, new) if kind in near else near)

    def turned(self):
        """The Book with the same kinds, in which just those clash that do not clash here."""
        pairs = [(one, other) for one in self._kinds for other in self._kinds if one <= other]
        return Book(self._kinds, [(one, other) for one, other in pairs if other not in self._near[one]])

    def _joined(self, other, between):
        common = sorted(set(self._kinds) & set(other.kinds))
        if common:
            raise Known(common[0])
        return Book((*self._kinds, *other.kinds), [*self._clashes, *other.clashes, *between])

    def beside(self, other):
        """The Book of both, a kind of the one being at peace with each kind of the other."""
        return self._joined(other, [])

    def against(self, other):
        """The Book of both, a kind of the one clashing with each kind of the other."""
        return self._joined(other, [(one, two) for one in self._kinds for two in other.kinds])


def alike(book, one, other):
    """Whether jobs of the one kind can stand for jobs of the other."""
    # One set of kinds that clash with both tells it all: if it has one of the two, it has both, and both are selfish.
    return book.clashing(one) == book.clashing(other)


def classes(book):
    """The sets of kinds that are alike to one another, ascending."""
    found = {}
    for kind in book.kinds:
        found.setdefault(book.clashing(kind), []).append(kind)
    # Each class was met first by its least kind, so they ascend already.
    return tuple([tuple(kinds) for kinds in found.values()])


def shortened(book):
    """The Book of the least kind of each class."""
    return book.only([kinds[0] for kinds in classes(book)])


def knots(book):
    """The sets of kinds that hang together by clashes, ascending."""
    return _hanging({kind: book.clashing(kind) for kind in book.kinds})


def peaces(book):
    """The sets of kinds that hang together by being at peace, ascending."""
    return _hanging({kind: book.peaceful(kind) for kind in book.kinds})


def _hanging(near):
    """The sets of kinds that hang together, near telling for each kind, ascending, those that are one step away."""
    seen = {}
    found = []
    for kind in near:
        if kind not in seen:
            reached = _reached(near, kind)
            seen.update({other: True for other in reached})
            found.append(tuple(sorted(reached)))
    return tuple(found)


def _reached(near, start):
    """All kinds to which one comes from start, itself the first of them, each once."""
    reached = {start: True}
    waiting = [start]
    while waiting:
        here = waiting.pop()
        for kind in near[here]:
            if kind not in reached:
                reached[kind] = True
                waiting.append(kind)
    return list(reached)


def clash_bits(book):
    """For each kind, by its place in the book, the kinds that clash with it, as bits at their places."""
    place = {kind: at for at, kind in enumerate(book.kinds)}
    return [sum([1 << place[other] for other in book.clashing(kind)]) for kind in book.kinds]
