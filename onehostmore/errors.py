"""All errors of the package. Each keeps its values, with tuples for lists, under the names of its parameters."""

from onehostmore.plain import frozen


class NoKind(LookupError):
    """A KIND is asked for that is not there."""

    def __init__(self, kind):
        self.kind = frozen(kind)


class NoKeeper(LookupError):
    """No keeper has the given word."""

    def __init__(self, given):
        self.given = frozen(given)


class NoNumber(LookupError):
    """None of several has this number."""

    def __init__(self, number):
        self.number = frozen(number)


class NoJob(LookupError):
    """A job is asked for that is not there."""

    def __init__(self, job):
        self.job = frozen(job)


class NoBook(LookupError):
    """No book has this name."""

    def __init__(self, name):
        self.name = frozen(name)


class NoFrame(LookupError):
    """The book of this name has no frame."""

    def __init__(self, name):
        self.name = frozen(name)


class Twice(ValueError):
    """A KIND stands twice."""

    def __init__(self, kind):
        self.kind = frozen(kind)


class Known(ValueError):
    """A KIND that should be new is there already."""

    def __init__(self, kind):
        self.kind = frozen(kind)


class OtherKinds(ValueError):
    """Just one of two has this KIND, where both should have the same ones."""

    def __init__(self, kind):
        self.kind = frozen(kind)


class BadText(ValueError):
    """Nothing has this text."""


class NoTree(ValueError):
    """A book has no tree, for it has this four."""

    def __init__(self, four):
        self.four = frozen(four)


class TooMany(ValueError):
    """There are more than so many."""

    def __init__(self, most):
        self.most = frozen(most)


class NotLed(ValueError):
    """A row of KINDs does not lead to an arrangement."""


class Selfish(ValueError):
    """A kind is selfish where none may be."""

    def __init__(self, kind):
        self.kind = frozen(kind)


class NoRoom(ValueError):
    """So many hosts are too few."""

    def __init__(self, many):
        self.many = frozen(many)


class Outside(ValueError):
    """The book of this name would not stay within its frame."""

    def __init__(self, name):
        self.name = frozen(name)


class BadLine(ValueError):
    """The line with this number is not as it should be."""

    def __init__(self, number):
        self.number = frozen(number)


class Stopped(ValueError):
    """Of several deeds the one with this number was refused, by an error of the name raised, which keeps value."""

    def __init__(self, number, raised, value):
        self.number = frozen(number)
        self.raised = frozen(raised)
        self.value = frozen(value)
