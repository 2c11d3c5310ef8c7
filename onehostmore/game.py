"""The game of a keeper against all that may come: the waste that it can promise never to exceed."""

from onehostmore.books import clash_bits
from onehostmore.crowds import ask_for
from onehostmore.errors import Known
from onehostmore.most import fewest, refuse_selfish, row_of
from onehostmore.plain import ones
from onehostmore.trees import parted


class Game:
    """What can be promised of each state: a tuple that tells each open host by the places of its kinds, as bits."""

    def __init__(self, book):
        self._clash = clash_bits(book)
        self._needs = fewest(self._clash)
        self._known = {}

    def least(self, state):
        """The least number that the waste, now and whatever comes from now on, need never exceed."""
        # Which of the hosts was opened first makes no difference.
        key = tuple(sorted(state))
        if key not in self._known:
            waste = len(key) - self._needs[sum(key)]
            self._known[key] = max([waste, *[self.least_behind(key, kind) for kind in self.missing(key)]])
        return self._known[key]

    def least_behind(self, state, kind):
        """The least number that can be promised when a job of this kind, of which none is there, has been put."""
        return min([self.least(after) for _, after in self.moves(state, kind)])

    def missing(self, state):
        """The places of the kinds of which no job is there."""
        present = sum(state)
        return [kind for kind in range(len(self._clash)) if not present >> kind & 1]

    def moves(self, state, kind):
        """The pairs (host, state behind it) of all hosts on which a job of this kind can be put, a new one, too."""
        found = []
        for at, host in enumerate(state):
            if not host & self._clash[kind]:
                found.append((at, (*state[:at], host | 1 << kind, *state[at + 1:])))
        return [*found, (len(state), (*state, 1 << kind))]


def promise(book, spread):
    """The least number that the waste need never exceed, with the hosts of the SPREAD open; raises Selfish."""
    refuse_selfish(book)
    return Game(book).least(_state(book, spread))


def _state(book, spread):
    """The SPREAD as a state of the Game."""
    return tuple([sum([1 << at for at, kind in enumerate(book.kinds) if kind in host]) for host in spread])


def best_hosts(book, spread, kind):
    """The set of the hosts on which a new job of this kind lets the keeper promise the most; raises Selfish .."""
    refuse_selfish(book)
    ask_for(book, [kind])
    if kind in row_of(spread):
        raise Known(kind)
    game = Game(book)
    moves = game.moves(_state(book, spread), book.kinds.index(kind))
    promises = [(game.least(after), host) for host, after in moves]
    least = min(promises)[0]
    return tuple([host for waste, host in promises if waste == least])


def comers(book, spread):
    """The set of the new kinds behind whose coming no keeper can promise less than now; raises Selfish."""
    refuse_selfish(book)
    game = Game(book)
    state = _state(book, spread)
    now = game.least(state)
    return tuple([book.kinds[kind] for kind in game.missing(state) if game.least_behind(state, kind) >= now])


def value(book):
    """The least number that the waste need never exceed, with no host open yet; raises Selfish."""
    refuse_selfish(book)
    return _value(book, parted(book, book.kinds))


def _value(book, part):
    """The value of one part, as parted tells it."""
    if part[0] in ("none", "one"):
        return 0
    if part[0] == "piece":
        return _value_of_piece(book.only(part[1]))
    below = [_value(book, inner) for inner in part[1:]]
    return max(below) if part[0] == "side" else sum(below)


def _value_of_piece(book):
    # What can not be parted has a four: without a ring of an odd number of clashes its value is just 1.
    return Game(book).least(()) if _has_odd_ring(clash_bits(book)) else 1


def _has_odd_ring(clash):
    """Whether there is a ring of an odd number of clashes among kinds that hang together by clashes."""
    side = {0: 0}
    waiting = [0]
    while waiting:
        here = waiting.pop()
        for at in ones(clash[here]):
            if at not in side:
                side[at] = 1 - side[here]
                waiting.append(at)
            elif side[at] == side[here]:
                return True
    return False
