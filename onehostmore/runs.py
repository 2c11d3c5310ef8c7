"""All lazy RUNs of a ROW, and the ROWs by which keepers waste."""

from onehostmore.crowds import allowed, crowd_of, need, there
from onehostmore.errors import NoNumber, TooMany
from onehostmore.keepers import Keeper, free_hosts, is_run, kinds_of, opened_in, opens, put, taken


def runs(book, row, *, most=2000):
    """All lazy RUNs, ascending; raises TooMany if there are more than so many."""
    found = _lazy_runs(book, row)
    if len(found) > most:
        raise TooMany(most)
    return found


def how_many_runs(book, row):
    """How many lazy RUNs there are."""
    return len(_lazy_runs(book, row))


def run_at(book, row, number):
    """The lazy RUN with this number; raises NoNumber if there is none."""
    found = _lazy_runs(book, row)
    if not 0 <= number < len(found):
        raise NoNumber(number)
    return found[number]


def number_of_run(book, row, thing):
    """The number of thing among the lazy RUNs; None if it is none."""
    found = _lazy_runs(book, row)
    # A tuple with True in it equals one with 1.
    return found.index(thing) if is_run(book, row, thing) and thing in found else None


def opens_counted(book, row):
    """The pairs (hosts, many): in many of the lazy RUNs just so many hosts are open behind the ROW; ascending."""
    found = {}
    for _, hosts in _ways(book, row):
        found[len(hosts)] = found.get(len(hosts), 0) + 1
    return sorted(found.items())


def least_open(book, row):
    """The least number of hosts that are open behind the ROW by a lazy RUN."""
    return opens_counted(book, row)[0][0]


def most_open(book, row):
    """The greatest number of hosts that are open behind the ROW by a lazy RUN."""
    return opens_counted(book, row)[-1][0]


def wasting(book, row, measure):
    """The least lazy RUN that wastes behind some deed; None if there is none."""
    bounds = allowed(book, row, measure)
    for run in _lazy_runs(book, row):
        if any([many > most for many, most in zip(opens(row, run), bounds)]):
            return run
    return None


def beating(book, who, measure, *, goings=True, most=5):
    """The shortest ROW by which the Keeper, or some lazy one, wastes, the least one of several; None if none does."""
    keeper = None if who == "lazy" else Keeper(who)
    level = [((), 0, [((), ())])]
    for _ in range(most):
        following = []
        # The ROWs of a level ascend, and so do those that come of one of them.
        for row, peak, ways in level:
            for deed in _deeds(book, row, goings):
                longer = (*row, deed)
                least = need(book, crowd_of([kind for _, kind in there(longer)]))
                highest = max(peak, least)
                after = _behind(book, row, ways, deed, keeper)
                if max([len(hosts) for _, hosts in after]) > (least if measure == "moment" else highest):
                    return longer
                following.append((longer, highest, after))
        level = following
    return None


def _deeds(book, row, goings):
    """The deeds that can come behind the ROW, ascending."""
    gone = [("go", job) for job, _ in there(row)] if goings else []
    return [*[("come", kind) for kind in book.kinds], *gone]


def _lazy_runs(book, row):
    return [run for run, _ in _ways(book, row)]


def _ways(book, row):
    """All lazy RUNs, ascending, each with the HOSTS behind the ROW."""
    ways = [((), ())]
    for at, deed in enumerate(row):
        ways = _behind(book, row[:at], ways, deed, None)
    return ways


def _behind(book, row, ways, deed, keeper):
    """The RUNs, each with its HOSTS, that the keeper makes of one deed more; any lazy one if it is None."""
    word, what = deed
    if word == "go":
        kind = kinds_of(row)[what]
        return [(run, taken(hosts, run[what], kind)) for run, hosts in ways]
    return [((*run, number), put(hosts, number, what))
            for run, hosts in ways for number in _numbers(book, run, hosts, what, keeper)]


def _numbers(book, run, hosts, kind, keeper):
    """The numbers, ascending, of the hosts on which the keeper can put a job of this KIND."""
    if keeper is None:
        return [number for number, _ in free_hosts(book, hosts, kind)] or [opened_in(run)]
    chosen = keeper.choice(book, hosts, kind)
    return [opened_in(run) if chosen is None else chosen]
