"""Keepers, the RUNs that they make of a ROW of deeds, and what these waste."""

from onehostmore.books import alike
from onehostmore.crowds import allowed
from onehostmore.errors import NoKeeper
from onehostmore.plain import is_number

WORDS = ("alike", "empty", "first", "full", "last")


class Keeper:
    """A lazy keeper: its word tells which of the open hosts it takes; it does not change."""

    def __init__(self, word):
        if word not in WORDS:
            raise NoKeeper(word)
        self._word = word

    @property
    def word(self):
        """The WORD of this Keeper."""
        return self._word

    def __eq__(self, other):
        return isinstance(other, Keeper) and self._word == other._word

    def choice(self, book, hosts, kind):
        """The number of the host on which it puts a job of this KIND; None if it opens one."""
        free = free_hosts(book, hosts, kind)
        if not free:
            return None
        if self._word == "last":
            return free[-1][0]
        # Of several with as many jobs min and max take the first one, which has the least number.
        if self._word == "full":
            return max(free, key=_jobs_on)[0]
        if self._word == "empty":
            return min(free, key=_jobs_on)[0]
        if self._word == "alike":
            free = [host for host in free if any([alike(book, kind, other) for other in host[1]])] or free
        return free[0][0]

    def run(self, book, row):
        """The RUN that it makes of the ROW."""
        kinds = kinds_of(row)
        run = ()
        hosts = ()
        for word, what in row:
            if word == "come":
                number = self.choice(book, hosts, what)
                run = (*run, opened_in(run) if number is None else number)
                hosts = put(hosts, run[-1], what)
            else:
                hosts = taken(hosts, run[what], kinds[what])
        return run


def _jobs_on(host):
    return len(host[1])


def free_hosts(book, hosts, kind):
    """Those of the HOSTS on which no job clashes with one of this KIND; raises NoKind."""
    near = book.clashing(kind)
    return [host for host in hosts if not any([other in near for other in host[1]])]


def put(hosts, number, kind):
    """The HOSTS behind a job of this KIND was put on the host with this number, maybe a new one."""
    found = {at: kinds for at, kinds in hosts}
    found[number] = tuple(sorted((*found.get(number, ()), kind)))
    return tuple(sorted(found.items()))


def taken(hosts, number, kind):
    """The HOSTS behind a job of this KIND went away from the host with this number."""
    found = {at: kinds for at, kinds in hosts}
    place = found[number].index(kind)
    left = (*found[number][:place], *found[number][place + 1:])
    return tuple([(at, left if at == number else found[at]) for at in found if at != number or left])


def opened_in(run):
    """How many hosts were opened in a RUN."""
    return max(run, default=-1) + 1


def kinds_of(row):
    """The KINDs of all jobs that come, by their numbers."""
    return tuple([what for word, what in row if word == "come"])


def _along(row, run):
    """The HOSTS at the beginning and behind each deed."""
    kinds = kinds_of(row)
    found = [()]
    came = 0
    for word, what in row:
        if word == "come":
            found.append(put(found[-1], run[came], what))
            came += 1
        else:
            found.append(taken(found[-1], run[what], kinds[what]))
    return found


def _puts(row, run):
    """For each job, by its number: the place of the deed by which it comes, the HOSTS ahead, its KIND, its host."""
    along = _along(row, run)
    comings = [(at, deed[1]) for at, deed in enumerate(row) if deed[0] == "come"]
    return [(at, along[at], kind, run[job]) for job, (at, kind) in enumerate(comings)]


def is_run(book, row, thing):
    """Whether thing is a RUN of this ROW."""
    if not isinstance(thing, tuple) or len(thing) != len(kinds_of(row)):
        return False
    if not all([is_number(number) for number in thing]):
        return False
    opened = 0
    for _, hosts, kind, number in _puts(row, thing):
        if number == opened:
            opened += 1
        elif number not in [at for at, _ in free_hosts(book, hosts, kind)]:
            return False
    return True


def hosts_behind(row, run, deeds):
    """The HOSTS behind the first so many deeds; behind all, if there are no more."""
    return _along(row, run)[min(deeds, len(row))]


def opens(row, run):
    """How many hosts are open behind each deed."""
    return tuple([len(hosts) for hosts in _along(row, run)[1:]])


def wastes(book, row, run, measure):
    """The waste behind each deed."""
    return tuple([max(0, many - most) for many, most in zip(opens(row, run), allowed(book, row, measure))])


def first_waste(book, row, run, measure):
    """The place of the first deed behind which something is wasted; None if there is none."""
    return _first([waste > 0 for waste in wastes(book, row, run, measure)])


def _first(answers):
    """The place of the first True; None if there is none."""
    return answers.index(True) if True in answers else None


def is_lazy(book, row, run):
    """Whether a lazy keeper can make this RUN."""
    return not_lazy_at(book, row, run) is None


def not_lazy_at(book, row, run):
    """The place of the first deed by which a host is opened though there is one without a clash; None if none is."""
    for at, hosts, kind, number in _puts(row, run):
        if number not in [host[0] for host in hosts] and free_hosts(book, hosts, kind):
            return at
    return None


def not_by(book, row, run, word):
    """The place of the first deed by which a job is put elsewhere than this Keeper would put it; None if none is."""
    keeper = Keeper(word)
    for at, hosts, kind, number in _puts(row, run):
        chosen = keeper.choice(book, hosts, kind)
        # A host that is not open is a new one: there is just one number that it can have.
        if chosen != (number if number in [host[0] for host in hosts] else None):
            return at
    return None
