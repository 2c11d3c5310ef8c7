"""CROWDs of jobs: how many hosts they need, and the CROWDs along a ROW of deeds."""

from onehostmore.errors import NoKind, NoTree
from onehostmore.patterns import four
from onehostmore.plain import is_number
from onehostmore.trees import leaves, parted


def is_crowd(book, thing):
    """Whether thing is a CROWD of KINDs of the Book."""
    if not isinstance(thing, tuple) or not all([isinstance(pair, tuple) and len(pair) == 2 for pair in thing]):
        return False
    if not all([kind in book and is_number(number) and number > 0 for kind, number in thing]):
        return False
    return _rises([kind for kind, _ in thing])


def _rises(rows):
    return all([rows[at] < rows[at + 1] for at in range(len(rows) - 1)])


def crowd_of(kinds):
    """The CROWD of jobs of these KINDs, one for each time that a KIND stands there."""
    found = {}
    for kind in kinds:
        found[kind] = found.get(kind, 0) + 1
    return tuple(sorted(found.items()))


def together(one, other):
    """The CROWD of the jobs of both."""
    found = {kind: number for kind, number in one}
    for kind, number in other:
        found[kind] = found.get(kind, 0) + number
    return tuple(sorted(found.items()))


def jobs_in(crowd):
    """How many jobs a CROWD has."""
    return sum([number for _, number in crowd])


def ask_for(book, kinds):
    """Raises NoKind for the first of the KINDs that the Book lacks."""
    for kind in kinds:
        if kind not in book:
            raise NoKind(kind)


def need(book, crowd):
    """The fewest hosts on which all jobs of the CROWD can stand."""
    numbers = _numbers(book, crowd)
    return need_of_part(book, parted(book, list(numbers)), numbers)


def _numbers(book, crowd):
    """The number of each KIND of a CROWD; raises NoKind for the least one that the Book lacks."""
    ask_for(book, [kind for kind, _ in crowd])
    return {kind: number for kind, number in crowd}


def need_of_part(book, part, numbers):
    """The need of the jobs of one part, with a number, maybe 0, for each of its KINDs."""
    if part[0] == "none":
        return 0
    if part[0] == "one":
        number = numbers[part[1]]
        return number if part[2] == 1 else min(number, 1)
    if part[0] == "piece":
        return _need_of_piece(book, part[1], numbers)
    below = [need_of_part(book, inner, numbers) for inner in part[1:]]
    return max(below) if part[0] == "side" else sum(below)


def _need_of_piece(book, kinds, numbers):
    """The need of jobs of kinds that can not be parted: the least number of hosts with which a look succeeds."""
    jobs = []
    for kind in kinds:
        # Jobs of a kind that is not selfish may all stand on the host of one of them.
        copies = numbers[kind] if book.clash(kind, kind) else min(numbers[kind], 1)
        jobs.extend([kind for _ in range(copies)])
    near = {kind: book.clashing(kind) for kind in kinds}
    hosts = 0
    while not _can_stand(near, jobs, [], hosts):
        hosts += 1
    return hosts


def _can_stand(near, jobs, hosts, most):
    """Whether jobs of these kinds can be put on these hosts, each told by its kinds, and on new ones, up to most."""
    if not jobs:
        return True
    first, *rest = jobs
    for at, host in enumerate(hosts):
        if not any([kind in near[first] for kind in host]):
            if _can_stand(near, rest, [*hosts[:at], [*host, first], *hosts[at + 1:]], most):
                return True
    return len(hosts) < most and _can_stand(near, rest, [*hosts, [first]], most)


def _tree(book, kinds):
    """The TREE of these kinds of the book; raises NoTree if they have none."""
    tree = parted(book, kinds)
    if any([leaf[0] == "piece" for leaf in leaves(tree)]):
        raise NoTree(four(book.only(kinds)))
    return tree


def lot(book, crowd):
    """As many jobs of the CROWD as its need, all of which clash with one another."""
    numbers = _numbers(book, crowd)
    return tuple(sorted(_lot(_tree(book, list(numbers)), numbers)))


def _lot(part, numbers):
    """The pairs of KIND and number of a lot of the jobs of one part."""
    if part[0] == "none":
        return []
    if part[0] == "one":
        return [(part[1], numbers[part[1]] if part[2] == 1 else 1)]
    below = [_lot(inner, numbers) for inner in part[1:]]
    if part[0] == "side":
        return max(below, key=jobs_in)
    return [pair for found in below for pair in found]


def is_lot(book, crowd, thing):
    """Whether thing is a CROWD of as many jobs of the CROWD as its need, all of which clash with one another."""
    numbers = _numbers(book, crowd)
    if not is_crowd(book, thing) or not all([number <= numbers.get(kind, 0) for kind, number in thing]):
        return False
    # Two jobs of one kind meet in one that has another job of this kind behind it.
    jobs = [kind for kind, number in thing for _ in range(min(number, 2))]
    clash = all([book.clash(one, other) for at, one in enumerate(jobs) for other in jobs[at + 1:]])
    return clash and jobs_in(thing) == need(book, crowd)


def placing(book, crowd):
    """A PLACING of all jobs of the CROWD on as few hosts as can be."""
    numbers = _numbers(book, crowd)
    found = {}
    for jobs, number in _hosts(_tree(book, list(numbers)), numbers):
        host = tuple(sorted(jobs))
        found[host] = found.get(host, 0) + number
    return tuple(sorted(found.items()))


def _hosts(part, numbers):
    """Pairs (jobs, number), so many hosts with just these jobs: the jobs of one part on as few hosts as can be."""
    if part[0] == "none":
        return []
    if part[0] == "one":
        number = numbers[part[1]]
        return [([(part[1], 1)], number)] if part[2] == 1 else [([(part[1], number)], 1)]
    below = [_hosts(inner, numbers) for inner in part[1:]]
    if part[0] == "against":
        return [pair for found in below for pair in found]
    whole = []
    for found in below:
        whole = _laid_over(whole, found)
    return whole


def _laid_over(some, more):
    """The hosts of two parts that are beside one another, as many as can be being used by both."""
    some, more = list(some), list(more)
    found = []
    while some and more:
        jobs, number = some.pop()
        others, amount = more.pop()
        both = min(number, amount)
        found.append((jobs + others, both))
        if number > both:
            some.append((jobs, number - both))
        if amount > both:
            more.append((others, amount - both))
    return found + some + more


def is_placing(book, crowd, thing):
    """Whether thing is a PLACING of all jobs of the CROWD, on however many hosts, on none of which two clash."""
    numbers = _numbers(book, crowd)
    if not isinstance(thing, tuple) or not all([_is_host(book, pair) for pair in thing]):
        return False
    found = {}
    for jobs, many in thing:
        for kind, number in jobs:
            found[kind] = found.get(kind, 0) + number * many
    return _rises([jobs for jobs, _ in thing]) and found == numbers


def _is_host(book, thing):
    """Whether thing is a pair of a CROWD, other than (), in which no two jobs clash, and a number from 1."""
    if not isinstance(thing, tuple) or len(thing) != 2 or thing[0] == () or not is_crowd(book, thing[0]):
        return False
    kinds = [kind for kind, number in thing[0] for _ in range(min(number, 2))]
    clash = any([book.clash(one, other) for at, one in enumerate(kinds) for other in kinds[at + 1:]])
    return not clash and is_number(thing[1]) and thing[1] > 0


def hosts_in(placing):
    """How many hosts a PLACING has."""
    return sum([number for _, number in placing])


def room(book, crowd, kind):
    """The greatest number of further jobs of this KIND with which the need is the same; None if it always is."""
    numbers = _numbers(book, crowd)
    ask_for(book, [kind])
    many = numbers.get(kind, 0)
    numbers[kind] = many
    tree = _tree(book, list(numbers))
    now = need_of_part(book, tree, numbers)
    if not book.clash(kind, kind):
        numbers[kind] = many + 1
        return None if need_of_part(book, tree, numbers) == now else 0
    # From some number on, which the number of all jobs reaches, each further job needs one host more:
    # going back from there, one host less for each job less, one comes to the last number with the need of now.
    far = many + jobs_in(crowd)
    numbers[kind] = far
    return far - (need_of_part(book, tree, numbers) - now) - many


def weighty(book, crowd):
    """The set of the KINDs of one job of which less the need is less."""
    numbers = _numbers(book, crowd)
    tree = parted(book, list(numbers))
    now = need_of_part(book, tree, numbers)
    return tuple([kind for kind in numbers if need_of_part(book, tree, {**numbers, kind: numbers[kind] - 1}) < now])


def sets_by_need(book):
    """For each need that some set of KINDs of the Book has, the pair of it and how many sets have it, ascending."""
    return list(enumerate(_sets_by_need(_tree(book, book.kinds))))


def _sets_by_need(part):
    """For each need, from 0 on, how many sets of KINDs of the part have it."""
    if part[0] == "none":
        return [1]
    if part[0] == "one":
        return [1, 1]
    found = [1]
    for inner in part[1:]:
        below = _sets_by_need(inner)
        found = _beside(found, below) if part[0] == "side" else _against(found, below)
    return found


def _beside(some, more):
    """The sets of two parts that are beside one another, by the greater need of both."""
    found = [0 for _ in range(max(len(some), len(more)))]
    for one, many in enumerate(some):
        for other, number in enumerate(more):
            found[max(one, other)] += many * number
    return found


def _against(some, more):
    """The sets of two parts that are against one another, by the sum of both needs."""
    found = [0 for _ in range(len(some) + len(more) - 1)]
    for one, many in enumerate(some):
        for other, number in enumerate(more):
            found[one + other] += many * number
    return found


def is_row(book, thing):
    """Whether thing is a ROW with KINDs of the Book."""
    if not isinstance(thing, tuple):
        return False
    present = {}
    came = 0
    for deed in thing:
        if not isinstance(deed, tuple) or len(deed) != 2:
            return False
        word, what = deed
        if word == "come" and what in book:
            present[came] = True
            came += 1
        elif word == "go" and is_number(what) and what in present:
            del present[what]
        else:
            return False
    return True


def there(row):
    """The pairs (job, KIND) of the jobs that are there behind the ROW, ascending."""
    kinds = [what for word, what in row if word == "come"]
    gone = {what: True for word, what in row if word == "go"}
    return tuple([(job, kind) for job, kind in enumerate(kinds) if job not in gone])


def crowds_along(row):
    """The CROWDs that are there at the beginning and behind each deed."""
    return [crowd_of([kind for _, kind in there(row[:deeds])]) for deeds in range(len(row) + 1)]


def needs(book, row):
    """The needs of the CROWDs along the ROW."""
    ask_for(book, [what for word, what in row if word == "come"])
    return [need(book, crowd) for crowd in crowds_along(row)]


def peaks(book, row):
    """For each of the CROWDs along the ROW the greatest need up to it."""
    along = needs(book, row)
    return [max(along[:at + 1]) for at in range(len(along))]


def allowed(book, row, measure):
    """How many hosts may be open behind each deed without waste."""
    return needs(book, row)[1:] if measure == "moment" else peaks(book, row)[1:]
