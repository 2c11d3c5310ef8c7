"""ARRANGEMENTs: who stands where, if jobs only come, and in how many ways that can have come about."""

from onehostmore.crowds import ask_for, crowd_of
from onehostmore.errors import NoNumber, NotLed
from onehostmore.plain import frozen


def is_arrangement(book, thing):
    """Whether thing is an ARRANGEMENT for the book."""
    return isinstance(thing, tuple) and all([_is_host(book, host) for host in thing])


def _is_host(book, thing):
    """Whether thing is an ascending row of KINDs of the book, one or more, no two of these jobs clashing."""
    if not isinstance(thing, tuple) or thing == () or not all([kind in book for kind in thing]):
        return False
    # Two jobs of a kind tell as much as more of them.
    few = [kind for kind, number in crowd_of(thing) for _ in range(min(number, 2))]
    clash = any([book.clash(one, other) for at, one in enumerate(few) for other in few[at + 1:]])
    return list(thing) == sorted(thing) and not clash


def _meets(book, kind, host):
    """Whether a job of this kind clashes with somebody on the host."""
    near = book.clashing(kind)
    return any([other in near for other in host])


def put_first(book, arrangement, kind):
    """The ARRANGEMENT behind one more job, put by first-free; raises NoKind."""
    ask_for(book, [kind])
    hosts = list(frozen(arrangement))
    for at, host in enumerate(arrangement):
        if not _meets(book, kind, host):
            hosts[at] = tuple(sorted((*host, kind)))
            return tuple(hosts)
    return (*hosts, (kind,))


def filled(book, kinds):
    """What first-free makes of jobs of these KINDs, in this order; raises NoKind."""
    arrangement = ()
    for kind in kinds:
        arrangement = put_first(book, arrangement, kind)
    return arrangement


def stray(book, arrangement):
    """The least (host, kind, ahead), the job clashing with nobody on a host ahead of its own; None if there is none."""
    for number, host in enumerate(arrangement):
        for kind in host:
            for ahead in range(number):
                if not _meets(book, kind, arrangement[ahead]):
                    return (number, kind, ahead)
    return None


class Filling:
    """How an ARRANGEMENT can come about, job by job, with first-free or, if lazy is True, with any lazy keeper.

    A cell is a triple (kind, host, number): so many jobs of the kind stand on the host at the end. A state tells for
    each cell how many of them are there. Cells ascend, so the one of two that can come next is less if its kind is,
    or its host with the same kind.
    """

    def __init__(self, book, arrangement, lazy):
        hosts = [crowd_of(host) for host in arrangement]
        self._cells = sorted([(kind, at, number) for at, host in enumerate(hosts) for kind, number in host])
        self._whole = tuple([number for _, _, number in self._cells])
        self._beside = [self._on(host) if lazy else [] for _, host, _ in self._cells]
        # For each cell, and each host ahead of its own, the cells there that clash with it.
        self._ahead = [[[at for at in self._on(ahead) if book.clash(kind, self._cells[at][0])] for ahead in range(host)]
                       for kind, host, _ in self._cells]
        self._known = {self._whole: 1}

    def _on(self, host):
        return [at for at, cell in enumerate(self._cells) if cell[1] == host]

    def beginning(self):
        """The state with no job."""
        return tuple([0 for _ in self._cells])

    def moves(self, state):
        """The pairs (cell, state behind it) of all jobs that can come next, ascending."""
        return [(self._cells[at], (*state[:at], number + 1, *state[at + 1:]))
                for at, number in enumerate(state) if number < self._whole[at] and self._can_come(state, at)]

    def _can_come(self, state, at):
        # A lazy keeper may take any open host; a new one, as first-free any one, only where it clashes on all ahead.
        if any([state[cell] > 0 for cell in self._beside[at]]):
            return True
        return all([any([state[cell] > 0 for cell in cells]) for cells in self._ahead[at]])

    def ways(self, state):
        """In how many ways the jobs that are not there yet can come."""
        if state not in self._known:
            self._known[state] = sum([self.ways(after) for _, after in self.moves(state)])
        return self._known[state]

    def nth(self, number):
        """The cells, job by job, of the way with this number; raises NoNumber if there is none."""
        state = self.beginning()
        if not 0 <= number < self.ways(state):
            raise NoNumber(number)
        found = []
        while state != self._whole:
            cell, state, number = self._step(state, number)
            found.append(cell)
        return found

    def _step(self, state, number):
        """The next cell of the way with this number, the state behind it, and the number among those from there on."""
        moves = self.moves(state)
        while number >= self.ways(moves[0][1]):
            number = number - self.ways(moves[0][1])
            moves = moves[1:]
        return (moves[0][0], moves[0][1], number)


def how_many_rows(book, arrangement):
    """How many tuples of KINDs there are of which filled makes this ARRANGEMENT."""
    filling = Filling(book, arrangement, False)
    return filling.ways(filling.beginning())


def nth_row(book, arrangement, number):
    """The tuple of KINDs with this number; raises NoNumber if there is none."""
    return tuple([kind for kind, _, _ in Filling(book, arrangement, False).nth(number)])


def rank_row(book, arrangement, kinds):
    """The number of this tuple of KINDs; raises NotLed if filled makes no such ARRANGEMENT of it."""
    if not all([kind in book for kind in kinds]) or filled(book, kinds) != frozen(arrangement):
        raise NotLed()
    filling = Filling(book, arrangement, False)
    state = filling.beginning()
    rank = 0
    for kind in kinds:
        moves = filling.moves(state)
        rank += sum([filling.ways(after) for cell, after in moves if cell[0] < kind])
        # First-free has just one host for each kind.
        state = [after for cell, after in moves if cell[0] == kind][0]
    return rank


def how_many_lazy(book, arrangement):
    """How many lazy rows to this ARRANGEMENT there are."""
    filling = Filling(book, arrangement, True)
    return filling.ways(filling.beginning())


def nth_lazy(book, arrangement, number):
    """The lazy row with this number; raises NoNumber if there is none."""
    return tuple([(kind, host) for kind, host, _ in Filling(book, arrangement, True).nth(number)])


def stuck(book, arrangement):
    """The numbers of the hosts that are left when all that could have been opened last are taken away."""
    away = _taken_away(book, arrangement)
    return tuple([number for number in range(len(arrangement)) if number not in away])


def opening(book, arrangement):
    """The numbers of all hosts in an order in which they have a lazy row; None if there is none."""
    away = _taken_away(book, arrangement)
    return tuple(away[::-1]) if len(away) == len(arrangement) else None


def _taken_away(book, arrangement):
    """The numbers of the hosts that can be taken away, one after the other, in this order."""
    left = list(range(len(arrangement)))
    away = []
    free = _could_be_last(book, arrangement, left)
    while free:
        away.append(free[0])
        left.remove(free[0])
        free = _could_be_last(book, arrangement, left)
    return away


def _could_be_last(book, arrangement, left):
    """Those of these hosts that have a job which clashes with somebody on each of the others."""
    return [number for number in left if any([
        all([_meets(book, kind, arrangement[other]) for other in left if other != number])
        for kind in arrangement[number]])]


def all_filled(book, kinds):
    """The ARRANGEMENTs that first-free makes of jobs of these KINDs, in whatever order, ascending; raises NoKind."""
    ask_for(book, kinds)
    return sorted(_all_filled(book, crowd_of(kinds), {(): [()]}))


def _all_filled(book, crowd, known):
    """The ARRANGEMENTs of the jobs of a CROWD; known has those of the CROWDs that were asked for earlier."""
    if crowd not in known:
        known[crowd] = [(host, *others) for host, rest in _first_hosts(book, crowd)
                        for others in _all_filled(book, rest, known)]
    return known[crowd]


def hosts_range(book, kinds):
    """The least and the greatest number of hosts that these ARRANGEMENTs have; raises NoKind."""
    ask_for(book, kinds)
    return _hosts_range(book, crowd_of(kinds), {(): (0, 0)})


def _hosts_range(book, crowd, known):
    if crowd not in known:
        ranges = [_hosts_range(book, rest, known) for _, rest in _first_hosts(book, crowd)]
        known[crowd] = (1 + min([least for least, _ in ranges]), 1 + max([most for _, most in ranges]))
    return known[crowd]


def _first_hosts(book, crowd):
    """The pairs (host, CROWD of the others) of what can stand on the first host, none of the others finding room."""
    sets = [[]]
    for kind, _ in crowd:
        sets = [*sets, *[[*some, kind] for some in sets if not _meets(book, kind, some)]]
    full = [some for some in sets if all([one in some or _meets(book, one, some) for one, _ in crowd])]
    return [_host_and_rest(book, crowd, some) for some in full]


def _host_and_rest(book, crowd, kinds):
    """The pair (host, CROWD of the others), all jobs that can being on the host that have one of these kinds."""
    on = {kind: 1 if book.clash(kind, kind) else number for kind, number in crowd if kind in kinds}
    host = tuple([kind for kind in on for _ in range(on[kind])])
    rest = [(kind, number - on.get(kind, 0)) for kind, number in crowd]
    return (host, tuple([pair for pair in rest if pair[1] > 0]))
