"""LOGs of first-free: what they tell of a book that is not known."""

from onehostmore.books import Book
from onehostmore.errors import NoNumber
from onehostmore.keepers import Keeper, kinds_of, put, taken
from onehostmore.plain import is_kind, is_number


def is_log(thing):
    """Whether thing is a LOG."""
    if not isinstance(thing, tuple) or not all([_is_triple(triple) for triple in thing]):
        return False
    # How many jobs there are of each KIND on each host, and on each host in all.
    jobs = {}
    opened = 0
    for word, kind, host in thing:
        if word == "come" and jobs.get(host, 0) == 0 and host != opened:
            return False
        if word == "go" and jobs.get((kind, host), 0) == 0:
            return False
        more = 1 if word == "come" else -1
        for key in (host, (kind, host)):
            jobs[key] = jobs.get(key, 0) + more
        opened = max(opened, host + 1)
    return True


def _is_triple(thing):
    return (isinstance(thing, tuple) and len(thing) == 3 and thing[0] in ("come", "go")
            and is_kind(thing[1]) and is_number(thing[2]))


def log_kinds(log):
    """The set of the KINDs of a LOG."""
    return tuple(sorted({kind for _, kind, _ in log}))


def log_of(book, row):
    """The LOG of first-free for these deeds; raises NoKind."""
    kinds = kinds_of(row)
    run = Keeper("first").run(book, row)
    found = []
    came = 0
    for word, what in row:
        job = what
        if word == "come":
            job = came
            came += 1
        found.append((word, kinds[job], run[job]))
    return tuple(found)


def _opened_in(log):
    """How many hosts were opened in a LOG."""
    return max([host for _, _, host in log], default=-1) + 1


def _behind(hosts, triple):
    """The HOSTS behind one triple more."""
    word, kind, host = triple
    return put(hosts, host, kind) if word == "come" else taken(hosts, host, kind)


def first_wrong(book, log):
    """The number of the first triple that does not fit the Book; None if the Book fits."""
    keeper = Keeper("first")
    hosts = ()
    for number, (word, kind, host) in enumerate(log):
        if kind not in book:
            return number
        if word == "come":
            chosen = keeper.choice(book, hosts, kind)
            if host != (_opened_in(log[:number]) if chosen is None else chosen):
                return number
        hosts = _behind(hosts, log[number])
    return None


def fits(book, log):
    """Whether the Book fits."""
    return first_wrong(book, log) is None


def _pair(one, other):
    return (min(one, other), max(one, other))


def _seen(log):
    """What the comings of a LOG tell: the PAIRs that are at peace, and sets of PAIRs of which one clashes each."""
    calm = {}
    passed = {}
    hosts = ()
    for word, kind, host in log:
        for number, kinds in hosts:
            pairs = [_pair(kind, other) for other in kinds]
            if word == "come" and number < host:
                passed[tuple(sorted(set(pairs)))] = True
            for pair in pairs:
                if word == "come" and number == host:
                    calm[pair] = True
        hosts = _behind(hosts, (word, kind, host))
    return (calm, list(passed))


def _told(log):
    """The pair (told_peaces, wants) of a LOG; None if no Book fits."""
    calm, passed = _seen(log)
    left = sorted({tuple([pair for pair in pairs if pair not in calm]) for pairs in passed})
    if () in left:
        return None
    # What has another one for its part need not be told: that one says more.
    wanted = [pairs for pairs in left
              if not any([other != pairs and all([pair in pairs for pair in other]) for other in left])]
    return (tuple(sorted(calm)), tuple(wanted))


def broken(log):
    """The least number such that no Book fits the triples up to this one; None if some Book fits all."""
    for number in range(len(log)):
        if _told(log[:number + 1]) is None:
            return number
    return None


def told_peaces(log):
    """The set of the PAIRs that are at peace in all Books that fit; None if none fits."""
    told = _told(log)
    return None if told is None else told[0]


def wants(log):
    """The set of the least sets of PAIRs of which one clashes in each Book that fits; None if none fits."""
    told = _told(log)
    return None if told is None else told[1]


def told_clashes(log):
    """The set of the PAIRs that clash in all Books that fit; None if none fits."""
    told = _told(log)
    return None if told is None else tuple([pairs[0] for pairs in told[1] if len(pairs) == 1])


def verdict(log, one, other):
    """Whether the two KINDs "clash" in all Books that fit, are at "peace" in all, or it is "open"; None likewise."""
    told = _told(log)
    if told is None:
        return None
    pair = _pair(one, other)
    if pair in told[0]:
        return "peace"
    return "clash" if (pair,) in told[1] else "open"


def most_clashes(log):
    """The Book with just the KINDs of the LOG that fits with the most clashes; None if none fits."""
    told = _told(log)
    return None if told is None else Book(log_kinds(log), _free(log, told[0]))


def _free(log, calm):
    """The PAIRs of KINDs of the LOG, ascending, but for those that are at peace."""
    kinds = log_kinds(log)
    pairs = [(one, other) for at, one in enumerate(kinds) for other in kinds[at:]]
    return [pair for pair in pairs if pair not in calm]


def _met(wanted, pair):
    """Those of the sets that want something yet if this PAIR clashes."""
    return [pairs for pairs in wanted if pair not in pairs]


def _unmet(wanted, pair):
    """What the sets want if this PAIR is at peace."""
    return [tuple([other for other in pairs if other != pair]) for pairs in wanted]


def _how_many(free, wanted):
    """How many sets of so many PAIRs have a PAIR, or more, of each of those that are wanted."""
    if () in wanted:
        return 0
    if not wanted:
        return 1 << free
    pair = wanted[0][0]
    return _how_many(free - 1, _met(wanted, pair)) + _how_many(free - 1, _unmet(wanted, pair))


def how_many_fit(log):
    """How many Books with just the KINDs of the LOG fit."""
    told = _told(log)
    return 0 if told is None else _how_many(len(_free(log, told[0])), told[1])


def nth_fit(log, number):
    """The Book with this number of those that fit; raises NoNumber if there is none."""
    if not 0 <= number < how_many_fit(log):
        raise NoNumber(number)
    told = _told(log)
    free, wanted = _free(log, told[0]), told[1]
    clashes = []
    # The clashes chosen so far, if they are enough, come ahead of those with further ones.
    while wanted or number > 0:
        number = number if wanted else number - 1
        at = 0
        many = _how_many(len(free) - 1, _met(wanted, free[0]))
        while number >= many:
            number = number - many
            wanted = _unmet(wanted, free[at])
            at += 1
            many = _how_many(len(free) - at - 1, _met(wanted, free[at]))
        clashes.append(free[at])
        wanted = _met(wanted, free[at])
        free = free[at + 1:]
    return Book(log_kinds(log), clashes)


def fewest_clashes(log):
    """How many clashes the Book has that fits with the fewest; None if none fits."""
    told = _told(log)
    return None if told is None else _fewest(told[1])


def _fewest(wanted):
    """How many PAIRs are enough to have one of each of those that are wanted."""
    if not wanted:
        return 0
    pair = wanted[0][0]
    found = 1 + _fewest(_met(wanted, pair))
    left = _unmet(wanted, pair)
    return found if () in left else min(found, _fewest(left))


def next_hosts(log, kind):
    """The set of the hosts on which first-free puts a job of this KIND next, with some Book that fits."""
    hosts = ()
    for triple in log:
        hosts = _behind(hosts, triple)
    numbers = [*[number for number, _ in hosts], _opened_in(log)]
    return tuple([number for number in numbers if _told((*log, ("come", kind, number))) is not None])


def telling_row(kinds):
    """A ROW of which the LOG that first-free writes fits no other Book with just these kinds."""
    row = []
    # With nothing else there, the second job passes the first one by exactly if both clash; then both go.
    for at, one in enumerate(kinds):
        for other in kinds[at:]:
            job = len(row) // 2
            row.extend([("come", one), ("come", other), ("go", job), ("go", job + 1)])
    return tuple(row)
