"""CROWDs that grow by the same jobs again and again, and the hosts that they need."""

from onehostmore.crowds import ask_for, jobs_in, need_of_part
from onehostmore.errors import NoRoom
from onehostmore.trees import tree_of


class Growth:
    """The CROWD base, to which the CROWD more comes so many times; raises NoKind, NoTree."""

    def __init__(self, book, base, more):
        ask_for(book, sorted([kind for kind, _ in (*base, *more)]))
        self._book = book
        self._tree = tree_of(book)
        self._base = {kind: many for kind, many in base}
        self._more = {kind: many for kind, many in more}
        # A need is the greatest of some sums, each of jobs of base, of one for a kind at the most, and of a rise for
        # each time. Two such sums are equal just once, not behind this number; so from it on the need rises evenly.
        self.far = jobs_in(base) + len(book) + 1

    def need_at(self, number):
        """The need when more came so many times."""
        base, more = self._base, self._more
        numbers = {kind: base.get(kind, 0) + more.get(kind, 0) * number for kind in self._book.kinds}
        return need_of_part(self._book, self._tree, numbers)

    def next_piece(self, first):
        """The first number that is not of the piece that begins with first; None if this has no end."""
        low = self.need_at(first)
        rise = self.need_at(first + 1) - low

        def is_even(number):
            return self.need_at(number) == low + (number - first) * rise

        # The jobs that were not there at all need not rise evenly at once; behind them needs only rise ever faster.
        if not is_even(first + 2):
            return first + 2
        last = _last(is_even, first + 2, first + 2 + self.far)
        return None if last is None else last + 1


def _last(holds, low, high):
    """The last number for which something holds that holds for low, and no more from some number on; None at high."""
    if holds(high):
        return None
    while high - low > 1:
        middle = (low + high) // 2
        if holds(middle):
            low = middle
        else:
            high = middle
    return low


def need_at(book, base, more, number):
    """The need of base and so many times more; raises NoKind, NoTree."""
    return Growth(book, base, more).need_at(number)


def rises(book, base, more):
    """The triples (first, need, rise) of the pieces in which the need rises evenly; raises NoKind, NoTree."""
    growth = Growth(book, base, more)
    found = []
    first = 0
    while first is not None:
        need = growth.need_at(first)
        found.append((first, need, growth.need_at(first + 1) - need))
        first = growth.next_piece(first)
    return tuple(found)


def most_steps(book, base, more, hosts):
    """The greatest number for which so many hosts are enough; None if they always are; raises NoRoom if for none."""
    growth = Growth(book, base, more)

    def is_enough(number):
        return growth.need_at(number) <= hosts

    if not is_enough(0):
        raise NoRoom(hosts)
    # Where the need rises evenly it rises by one host each time at the least, or not any more.
    return _last(is_enough, 0, growth.far + hosts + 1)
