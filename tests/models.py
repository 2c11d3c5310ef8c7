"""Plain models: what hosts are needed, and what keepers can do, by looking at all that there is."""

import functools

WORDS = ("alike", "empty", "first", "full", "last")
SENSES = [(deeds, measure, who) for deeds in ("comings", "goings") for measure in ("moment", "peak")
          for who in ("first", "lazy", "some")]


def clash_by(book):
    """What the pairs of the book say: a function that tells whether two kinds clash."""
    pairs = {frozenset(pair) for pair in book.clashes}
    return lambda one, other: frozenset((one, other)) in pairs


def partings(jobs, clash=lambda one, other: False):
    """All ways to part a list of jobs into hosts, such that no two on one host clash."""
    if not jobs:
        yield []
        return
    for hosts in partings(jobs[1:], clash):
        yield [[jobs[0]], *hosts]
        for at, host in enumerate(hosts):
            if not any(clash(jobs[0], other) for other in host):
                yield [*hosts[:at], [jobs[0], *host], *hosts[at + 1:]]


def fair(clash, host):
    """Whether no two of these kinds, one for each job, clash."""
    return not any(clash(one, other) for at, one in enumerate(host) for other in host[at + 1:])


def least_need(book, kinds):
    """The fewest hosts for jobs of these kinds, by a look at all ways to part them."""
    return _least_need(frozenset(map(frozenset, book.clashes)), tuple(sorted(kinds)))


@functools.lru_cache(maxsize=None)
def _least_need(pairs, kinds):
    def clash(one, other):
        return frozenset((one, other)) in pairs

    return min(len(hosts) for hosts in partings(list(kinds), clash))


def jobs_behind(row):
    """The jobs that are there behind the row, with their kinds."""
    present = {}
    came = 0
    for word, what in row:
        if word == "come":
            present[came] = what
            came += 1
        else:
            present.pop(what)
    return present


def need_behind(book, row):
    return least_need(book, jobs_behind(row).values())


def next_deeds(kinds, row):
    """All deeds that can come behind the row, ascending."""
    return [("come", kind) for kind in kinds] + [("go", job) for job in jobs_behind(row)]


def rows_of(kinds, most, goings=True):
    """All rows of at most so many deeds, the shorter ones first, ascending among those of one length."""
    level = [()]
    yield ()
    for _ in range(most):
        level = [(*row, deed) for row in level for deed in next_deeds(kinds, row) if goings or deed[0] == "come"]
        yield from level


class Hosts:
    """Open hosts at a moment: number to jobs with kinds, and how many were opened so far."""

    def __init__(self, hosts=None, opened=0):
        self.hosts = hosts or {}
        self.opened = opened

    def put(self, number, job, kind):
        hosts = {at: dict(jobs) for at, jobs in self.hosts.items()}
        hosts.setdefault(number, {})[job] = kind
        return Hosts(hosts, max(self.opened, number + 1))

    def gone(self, job):
        hosts = {at: {one: kind for one, kind in jobs.items() if one != job} for at, jobs in self.hosts.items()}
        return Hosts({at: jobs for at, jobs in hosts.items() if jobs}, self.opened)

    def free(self, clash, kind):
        return [at for at in sorted(self.hosts) if not any(clash(kind, other) for other in self.hosts[at].values())]


def choices(clash, hosts, kind, who):
    """The numbers of the hosts on which some such keeper puts the job."""
    free = hosts.free(clash, kind)
    if who == "some":
        return [*free, hosts.opened]
    if not free:
        return [hosts.opened]
    return {"first": free[:1], "last": free[-1:], "lazy": free}[who]


def all_runs(book, row, who):
    """All runs that such keepers make of the row, each with the numbers of open hosts behind each deed."""
    clash = clash_by(book)
    states = [((), (), Hosts())]
    for word, what in row:
        following = []
        for run, counts, hosts in states:
            if word == "go":
                after = hosts.gone(what)
                following.append((run, (*counts, len(after.hosts)), after))
            else:
                for number in choices(clash, hosts, what, who):
                    after = hosts.put(number, len(run), what)
                    following.append(((*run, number), (*counts, len(after.hosts)), after))
        states = following
    return [(run, counts) for run, counts, _ in states]


def alike_by(book, one, other):
    """Whether two kinds are alike by the words of the document."""
    clash = clash_by(book)
    if one == other:
        return True
    same = clash(one, one) == clash(other, other) == clash(one, other)
    return same and all(clash(one, third) == clash(other, third) for third in book.kinds if third not in (one, other))


def told_choice(book, hosts, kind, word):
    """The number of the host that the table tells, hosts being pairs (number, KINDs); None if there is none."""
    clash = clash_by(book)
    free = [(number, kinds) for number, kinds in hosts if not any(clash(kind, other) for other in kinds)]
    if not free:
        return None
    numbers = [number for number, _ in free]
    if word == "last":
        return max(numbers)
    if word == "full":
        most = max(len(kinds) for _, kinds in free)
        return min(number for number, kinds in free if len(kinds) == most)
    if word == "empty":
        fewest = min(len(kinds) for _, kinds in free)
        return min(number for number, kinds in free if len(kinds) == fewest)
    if word == "alike":
        same = [number for number, kinds in free if any(alike_by(book, kind, other) for other in kinds)]
        return min(same or numbers)
    return min(numbers)


def told_hosts(hosts):
    """HOSTS, as the document tells them, of an object of the class above."""
    return tuple((number, tuple(sorted(jobs.values()))) for number, jobs in sorted(hosts.hosts.items()))


def told_run(book, row, word):
    """The RUN of the keeper of this word."""
    hosts, run = Hosts(), ()
    for deed, what in row:
        if deed == "go":
            hosts = hosts.gone(what)
        else:
            number = told_choice(book, told_hosts(hosts), what, word)
            number = hosts.opened if number is None else number
            hosts = hosts.put(number, len(run), what)
            run = (*run, number)
    return run


def hosts_along(row, run):
    """The open hosts at the beginning and behind each deed."""
    found, came = [Hosts()], 0
    for deed, what in row:
        if deed == "go":
            found.append(found[-1].gone(what))
        else:
            found.append(found[-1].put(run[came], came, what))
            came += 1
    return found


def limits(book, row, measure):
    """How many hosts can be open behind each deed without waste."""
    needs = [need_behind(book, row[:deeds]) for deeds in range(len(row) + 1)]
    if measure == "peak":
        needs = [max(needs[:at + 1]) for at in range(len(needs))]
    return needs[1:]


def waste_of(counts, bounds):
    """The greatest waste behind a deed."""
    return max([max(0, many - bound) for many, bound in zip(counts, bounds)], default=0)


def told_least_waste(book, row, measure):
    bounds = limits(book, row, measure)
    return min(waste_of(counts, bounds) for _, counts in all_runs(book, row, "some"))


def told_beats(book, sense, row):
    deeds, measure, who = sense
    if deeds == "comings" and any(word == "go" for word, _ in row):
        return False
    if who == "some":
        return told_least_waste(book, row, measure) > 0
    bounds = limits(book, row, measure)
    return any(waste_of(counts, bounds) for _, counts in all_runs(book, row, who))


def put(hosts, at, job, kind):
    """Hosts, each a tuple of pairs (job, kind), behind a job was put on the one at this place."""
    if at == len(hosts):
        return (*hosts, ((job, kind),))
    return tuple((*host, (job, kind)) if place == at else host for place, host in enumerate(hosts))


def gone(hosts, job):
    left = [tuple(pair for pair in host if pair[0] != job) for host in hosts]
    return tuple(host for host in left if host)


class Watch:
    """All that keepers can do with one row: what first-free has, what lazy ones may have, what wastes nothing yet."""

    def __init__(self, clash, row=(), came=0, peak=0, states=None, pure=True):
        self.clash, self.row, self.came, self.peak, self.pure = clash, row, came, peak, pure
        self.states = states or {"first": {()}, "lazy": {()}, "moment": {()}, "peak": {()}}
        self.beaten = set()

    def places(self, hosts, kind, who):
        free = [at for at, host in enumerate(hosts) if not any(self.clash(kind, other) for _, other in host)]
        if who in ("moment", "peak"):
            return [*free, len(hosts)]
        return (free or [len(hosts)])[:1 if who == "first" else None]

    def behind(self, deed, need):
        word, what = deed
        peak = max(self.peak, need)
        states = {}
        for who, known in self.states.items():
            if word == "go":
                states[who] = {gone(hosts, what) for hosts in known}
            else:
                states[who] = {put(hosts, at, self.came, what) for hosts in known for at in self.places(hosts, what, who)}
        after = Watch(self.clash, (*self.row, deed), self.came + (word == "come"), peak, states,
                      self.pure and word == "come")
        for measure, most in (("moment", need), ("peak", peak)):
            for who in ("first", "lazy"):
                if any(len(hosts) > most for hosts in states[who]):
                    after.beaten.add((measure, who))
            states[measure] = {hosts for hosts in states[measure] if len(hosts) <= most}
            if not states[measure]:
                after.beaten.add((measure, "some"))
        return after


def shortest(book, most):
    """For each SENSE in which a row of at most so many deeds beats: how many deeds the shortest one has."""
    found = {}
    level = [Watch(clash_by(book))]
    for length in range(1, most + 1):
        level = [watch.behind(deed, need_behind(book, (*watch.row, deed)))
                 for watch in level for deed in next_deeds(book.kinds, watch.row)]
        for watch in level:
            for measure, who in watch.beaten:
                for deeds in ("comings", "goings") if watch.pure else ("goings",):
                    found.setdefault((deeds, measure, who), length)
    return found
