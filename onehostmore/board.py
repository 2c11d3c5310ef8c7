"""A board: jobs that come and go, books by names, frames for the books; all deeds can be taken back."""

from onehostmore.books import Book
from onehostmore.crowds import crowd_of, need, there
from onehostmore.errors import NoBook, NoFrame, NoJob, NoKind, OtherKinds, Outside, Stopped, Twice
from onehostmore.keepers import Keeper
from onehostmore.trees import tree_of


class Board:
    """Kinds, a ROW of comings and goings, BOOKs by NAMEs, and frames within which these must stay.

    Each deed puts new values for the row, the books and the frames, and keeps the earlier ones to be taken back.
    """

    def __init__(self, kinds=()):
        known = {}
        for kind in kinds:
            if kind in known:
                raise Twice(kind)
            known[kind] = True
        self._kinds = tuple(sorted(known))
        self._row = ()
        self._books = {}
        self._frames = {}
        self._past = []

    @property
    def kinds(self):
        """The set of the kinds."""
        return self._kinds

    @property
    def jobs(self):
        """The pairs (job, KIND) of the JOBS that are there, ascending."""
        return there(self._row)

    @property
    def crowd(self):
        """The CROWD of the JOBS that are there."""
        return crowd_of([kind for _, kind in there(self._row)])

    @property
    def row(self):
        """The ROW of all comings and goings that were not taken back."""
        return self._row

    @property
    def names(self):
        """The set of the NAMEs of the BOOKs."""
        return tuple(sorted(self._books))

    @property
    def frames(self):
        """The triples (name, low, high) of all frames, ascending, with the texts of their BOOKs, None for None."""
        return tuple([(name, *[None if end is None else end.text for end in self._frames[name]])
                      for name in sorted(self._frames)])

    def __len__(self):
        return len(self._books)

    def __contains__(self, name):
        return name in self._books

    def __iter__(self):
        raise TypeError("a Board can not be gone through")

    def __eq__(self, other):
        return (isinstance(other, Board) and self._kinds == other._kinds and self._row == other._row
                and self._books == other._books and self._frames == other._frames)

    def __getitem__(self, name):
        if name not in self._books:
            raise NoBook(name)
        return self._books[name]

    def hosts(self, name):
        """The pairs (host, set of its JOBS) of what first-free has open by this BOOK; raises NoBook."""
        run = Keeper("first").run(self[name], self._row)
        found = {}
        for job, _ in self.jobs:
            found.setdefault(run[job], []).append(job)
        return tuple([(host, tuple(found[host])) for host in sorted(found)])

    def used(self, name):
        """How many hosts first-free has open by this BOOK; raises NoBook."""
        return len(self.hosts(name))

    def spare(self, name):
        """How many more these are than the need of the JOBS that are there; raises NoBook, NoTree."""
        book = self[name]
        # A BOOK without a tree has no answer even where the KINDs of the JOBS have one.
        tree_of(book)
        return self.used(name) - need(book, self.crowd)

    def above(self, name):
        """The set of the NAMEs of the other BOOKs that have all its clashes; raises NoBook."""
        book = self[name]
        return tuple([other for other in self.names if other != name and book.within(self[other])])

    def doubled(self):
        """The set of the NAMEs of BOOKs to which one with a lesser NAME is equal."""
        return tuple([name for at, name in enumerate(self.names)
                      if any([self[name] == self[other] for other in self.names[:at]])])

    def effect(self, name, book):
        """Whether its BOOK and this one are "alike", it is "within" or "around" this one, or "neither"; raises .."""
        mine = self[name]
        within = mine.within(book)
        if mine == book:
            return "alike"
        if within:
            return "within"
        return "around" if book.within(mine) else "neither"

    def _change(self, row, books, frames):
        self._past.append((self._row, self._books, self._frames))
        self._row, self._books, self._frames = row, books, frames

    def _keep(self, name, book, frames):
        """This is the BOOK of this name from now on, and these are all frames; raises Outside."""
        low, high = frames.get(name, (None, None))
        if low is not None and not low.within(book) or high is not None and not book.within(high):
            raise Outside(name)
        self._change(self._row, {**self._books, name: book}, frames)

    def _ask_kinds(self, book):
        """Raises OtherKinds if the BOOK has not just the kinds of the Board."""
        # It is within that raises it, whatever clashes.
        Book(self._kinds).within(book)

    def _ask_name(self, name):
        if name not in self._books:
            raise NoBook(name)

    def _frames_without(self, name):
        return {other: self._frames[other] for other in self._frames if other != name}

    def come(self, kind):
        """A JOB of this KIND comes; its number; raises NoKind."""
        if kind not in self._kinds:
            raise NoKind(kind)
        self._change((*self._row, ("come", kind)), self._books, self._frames)
        return len([word for word, _ in self._row if word == "come"]) - 1

    def go(self, job):
        """This JOB goes; raises NoJob."""
        if job not in [number for number, _ in self.jobs]:
            raise NoJob(job)
        self._change((*self._row, ("go", job)), self._books, self._frames)

    def _set(self, name, book):
        self._ask_kinds(book)
        self._keep(name, book, self._frames)

    def __setitem__(self, name, book):
        self._set(name, book)

    def leave(self, name):
        """The BOOK goes, with its frame; raises NoBook."""
        self._ask_name(name)
        books = {other: self._books[other] for other in self._books if other != name}
        self._change(self._row, books, self._frames_without(name))

    def _add(self, name, pair):
        book = self[name]
        # The Book itself raises NoKind, and it can object to the new pair alone.
        self._keep(name, Book(book.kinds, (*book.clashes, pair)), self._frames)

    def __iadd__(self, other):
        name, pair = other
        self._add(name, pair)
        return self

    def frame(self, name, low, high):
        """The BOOK must stay between these two BOOKs, None asking for nothing; raises NoBook, OtherKinds, Outside."""
        self._ask_name(name)
        for end in (low, high):
            if end is not None:
                self._ask_kinds(end)
        self._keep(name, self._books[name], {**self._frames, name: (low, high)})

    def lift(self, name):
        """The frame goes; raises NoBook, NoFrame."""
        self._ask_name(name)
        if name not in self._frames:
            raise NoFrame(name)
        self._change(self._row, self._books, self._frames_without(name))

    def attempt(self, deeds):
        """Does all of these deeds as one, or none; raises Stopped."""
        past = [*self._past, (self._row, self._books, self._frames)]
        for number, deed in enumerate(deeds):
            refused = self._refusal(deed)
            if refused is not None:
                self._past = past
                self.undo()
                raise Stopped(number, refused[0], refused[1])
        self._past = past

    def _refusal(self, deed):
        """Does the deed; the name of the error that refuses it with what this keeps, None if none does."""
        try:
            self._do(deed)
        except NoKind as no_kind:
            return ("NoKind", no_kind.kind)
        except NoJob as no_job:
            return ("NoJob", no_job.job)
        except NoBook as no_book:
            return ("NoBook", no_book.name)
        except NoFrame as no_frame:
            return ("NoFrame", no_frame.name)
        except OtherKinds as other_kinds:
            return ("OtherKinds", other_kinds.kind)
        except Outside as outside:
            return ("Outside", outside.name)
        return None

    def _do(self, deed):
        word, *given = deed
        if word == "come":
            self.come(*given)
        elif word == "go":
            self.go(*given)
        elif word == "set":
            self._set(*given)
        elif word == "leave":
            self.leave(*given)
        elif word == "add":
            self._add(*given)
        elif word == "frame":
            self.frame(*given)
        else:
            self.lift(*given)

    def undo(self):
        """Takes back the last deed that was not taken back yet; whether there was one."""
        if not self._past:
            return False
        self._row, self._books, self._frames = self._past.pop()
        return True

    def twin(self):
        """Another Board in the same state, with the same deeds to take back."""
        # Rows, dicts of books and of frames are never changed, only put anew; so two Boards may have the same ones.
        other = settled(self)
        other._past = list(self._past)
        return other


def settled(board):
    """Another Board in the same state, with no deed to take back."""
    other = Board(board._kinds)
    other._row, other._books, other._frames = board._row, board._books, board._frames
    return other
