"""A desk: requests to a Board, written one in a line, and the answers to them."""

from onehostmore.board import Board
from onehostmore.books import Book
from onehostmore.errors import BadLine, BadText, NoBook, NoFrame, NoJob, NoKind, Outside
from onehostmore.plain import is_kind
from onehostmore.texts import crowd_text, kinds_in, number_in

# What stands behind the word of a request: nothing, a KIND or NAME, or a NAME and CLASHES.
ALONE = ("jobs", "crowd", "doubled", "undo")
WITH_NAME = ("come", "leave", "lift", "hosts", "used", "above")
WITH_CLASHES = ("book", "effect")


def answers(text):
    """The answers to the requests of the text, done one after another to a Board; raises BadLine."""
    if text == "":
        return []
    kinds = ()
    requests = []
    for number, line in enumerate(text.split("\n")):
        try:
            if number == 0:
                kinds = kinds_in(line)
            else:
                requests.append(_request_in(line, kinds))
        except BadText:
            raise BadLine(number) from None
    board = Board(kinds)
    return ["done", *[_answer(board, request) for request in requests]]


def _request_in(line, kinds):
    """The request of a line: the tuple of its word and of what it is about; raises BadText."""
    word, *rest = line.split(" ")
    if not rest:
        if word in ALONE:
            return (word,)
    elif word == "go" and len(rest) == 1:
        return (word, number_in(rest[0]))
    elif is_kind(rest[0]):
        if word in WITH_NAME and len(rest) == 1:
            return (word, rest[0])
        if word == "add" and len(rest) == 2:
            return (word, rest[0], _pair_in(rest[1]))
        if word in WITH_CLASHES:
            return (word, rest[0], _book_in(rest[1:], kinds))
        if word == "frame" and rest[1:2] == ["from"] and ".." in rest:
            at = rest.index("..")
            return (word, rest[0], _end_in(rest[2:at], kinds), _end_in(rest[at + 1:], kinds))
    raise BadText()


def _pair_in(text):
    """The PAIR that is so written; raises BadText."""
    one, _, other = text.partition("-")
    if not is_kind(one) or not is_kind(other) or one > other:
        raise BadText()
    return (one, other)


def _book_in(words, kinds):
    """The Book with these kinds and the CLASHES that are so written, word by word; raises BadText."""
    pairs = [] if words == ["-"] else [_pair_in(word) for word in words]
    if not words or pairs != sorted(set(pairs)):
        raise BadText()
    try:
        return Book(kinds, pairs)
    except NoKind:
        raise BadText() from None


def _end_in(words, kinds):
    """An end of a frame: a Book, or None; raises BadText."""
    return None if words == ["*"] else _book_in(words, kinds)


def _spaced(values):
    """The values with blanks between; - for none."""
    return " ".join([str(part) for part in values]) if values else "-"


def _come(board, kind):
    return str(board.come(kind))


def _go(board, job):
    board.go(job)
    return "done"


def _book(board, name, book):
    board[name] = book
    return "done"


def _leave(board, name):
    board.leave(name)
    return "done"


def _lift(board, name):
    board.lift(name)
    return "done"


def _add(board, name, pair):
    board += (name, pair)
    return "done"


def _frame(board, name, low, high):
    board.frame(name, low, high)
    return "done"


def _jobs(board):
    return _spaced([f"{job}:{kind}" for job, kind in board.jobs])


def _crowd(board):
    return crowd_text(board.crowd)


def _hosts(board, name):
    hosts = board.hosts(name)
    return ", ".join([f"{host}: {_spaced(jobs)}" for host, jobs in hosts]) if hosts else "-"


def _used(board, name):
    return str(board.used(name))


def _above(board, name):
    return _spaced(board.above(name))


def _doubled(board):
    return _spaced(board.doubled())


def _effect(board, name, book):
    return board.effect(name, book)


def _undo(board):
    return "yes" if board.undo() else "no"


ACTS = {
    "come": _come, "go": _go, "book": _book, "leave": _leave, "lift": _lift, "add": _add, "frame": _frame,
    "jobs": _jobs, "crowd": _crowd, "hosts": _hosts, "used": _used, "above": _above, "doubled": _doubled,
    "effect": _effect, "undo": _undo,
}


def _answer(board, request):
    """Does the request, which _request_in has read, and answers it."""
    word, *given = request
    act = ACTS[word]
    try:
        return act(board, *given)
    except NoKind:
        return "refused NoKind"
    except NoJob:
        return "refused NoJob"
    except NoBook:
        return "refused NoBook"
    except NoFrame:
        return "refused NoFrame"
    except Outside:
        return "refused Outside"
