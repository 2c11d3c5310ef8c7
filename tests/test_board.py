"""A board (promises 2, 3 and 14)."""

import random
import unittest

from onehostmore.board import Board
from onehostmore.books import Book
from onehostmore.crowds import is_crowd, is_row
from onehostmore.errors import NoBook, NoFrame, NoJob, NoKind, NoTree, OtherKinds, Outside, Stopped, Twice
from onehostmore.keepers import Keeper
from models import clash_by, least_need
from things import STRANGE, Refusing, all_books, lists_for, many_kinds, some_books

KINDS = ("a", "b", "c", "d")
OLD = Book.of("a b c d; a-b b-c c-d")
NEW = Book.of("a b c d; a-b")
BARE = Book(KINDS)
FULL = BARE.turned()
NAMES = many_kinds(40)


class Model:
    """The state of a board, told plainly: a list of deeds, dicts of sets of pairs, and copies of all that was."""

    def __init__(self, kinds):
        self.kinds = sorted(kinds)
        self.row, self.books, self.frames, self.past = [], {}, {}, []

    def state(self):
        return list(self.row), dict(self.books), dict(self.frames)

    def restore(self, state):
        self.row, self.books, self.frames = list(state[0]), dict(state[1]), dict(state[2])

    def jobs(self):
        found, came = {}, 0
        for word, what in self.row:
            if word == "come":
                found[came] = what
                came += 1
            else:
                del found[what]
        return found

    def outside(self, clashes, frame):
        low, high = frame
        return low is not None and not set(low.clashes) <= clashes or high is not None and not clashes <= set(high.clashes)

    def other_kind(self, book):
        return min(set(book.kinds) ^ set(self.kinds), default=None)

    def refusal(self, deed):
        """The name of the error and what it keeps, None if the deed is to be done."""
        word, *given = deed
        if word == "come":
            return None if given[0] in self.kinds else ("NoKind", given[0])
        if word == "go":
            return None if given[0] in self.jobs() else ("NoJob", given[0])
        name = given[0]
        if word == "set":
            if self.other_kind(given[1]) is not None:
                return ("OtherKinds", self.other_kind(given[1]))
            inside = not self.outside(set(given[1].clashes), self.frames.get(name, (None, None)))
            return None if inside else ("Outside", name)
        if name not in self.books:
            return ("NoBook", name)
        if word == "add":
            for kind in given[1]:
                if kind not in self.kinds:
                    return ("NoKind", kind)
            after = self.books[name] | {tuple(sorted(given[1]))}
            return ("Outside", name) if self.outside(after, self.frames.get(name, (None, None))) else None
        if word == "frame":
            for end in given[1:]:
                if end is not None and self.other_kind(end) is not None:
                    return ("OtherKinds", self.other_kind(end))
            return ("Outside", name) if self.outside(self.books[name], given[1:]) else None
        return ("NoFrame", name) if word == "lift" and name not in self.frames else None

    def do(self, deed):
        self.past.append(self.state())
        word, *given = deed
        if word in ("come", "go"):
            self.row.append((word, given[0]))
        elif word == "set":
            self.books[given[0]] = set(given[1].clashes)
        elif word == "add":
            self.books[given[0]] = self.books[given[0]] | {tuple(sorted(given[1]))}
        elif word == "frame":
            self.frames[given[0]] = tuple(given[1:])
        else:
            self.frames.pop(given[0], None)
            if word == "leave":
                del self.books[given[0]]

    def attempt(self, deeds):
        """None if all can be done; otherwise the number of the first one that is refused, and by what."""
        before, past = self.state(), list(self.past)
        for number, deed in enumerate(deeds):
            refused = self.refusal(deed)
            if refused:
                self.restore(before)
                self.past = past
                return (number, *refused)
            self.do(deed)
        self.past = [*past, before]
        return None

    def undo(self):
        if not self.past:
            return False
        self.restore(self.past.pop())
        return True

    def book(self, name):
        return Book(self.kinds, sorted(self.books[name]))

    def hosts(self, name):
        """What first-free has open: dicts of jobs by numbers of hosts."""
        clash = clash_by(self.book(name))
        hosts, opened, came = {}, 0, 0
        for word, what in self.row:
            if word == "go":
                for at in list(hosts):
                    hosts[at].pop(what, None)
                    if not hosts[at]:
                        del hosts[at]
                continue
            free = [at for at in sorted(hosts) if not any(clash(what, other) for other in hosts[at].values())]
            at = free[0] if free else opened
            opened = max(opened, at + 1)
            hosts.setdefault(at, {})[came] = what
            came += 1
        return tuple((at, tuple(sorted(hosts[at]))) for at in sorted(hosts))


def do(board, deed):
    """Does one deed, told as for an attempt, to the board itself; what it answers."""
    word, *given = deed
    if word == "set":
        board[given[0]] = given[1]
        return None
    if word == "add":
        board += (given[0], given[1])
        return None
    return getattr(board, word)(*given)


def some_deed(source, model, names=("old", "new", "x", "y")):
    """A deed that may be done or may be refused."""
    kinds = [*model.kinds, "zz"]

    def book():
        found = next(some_books(tuple(model.kinds), 1, source.random()))
        return found.with_kind("zz", ()) if source.random() < 0.05 else found

    def end():
        return None if source.random() < 0.5 else source.choice([book(), Book(model.kinds), Book(model.kinds).turned()])

    word = source.choice(["come", "come", "come", "go", "go", "set", "set", "leave", "add", "add", "frame", "frame", "lift"])
    name = source.choice(names)
    if word == "come":
        return (word, source.choice(kinds) if source.random() < 0.3 else source.choice(kinds[:-1] or kinds))
    if word == "go":
        return (word, source.choice([*model.jobs(), *model.jobs(), *model.jobs(), 0, 99]))
    if word == "set":
        return (word, name, book())
    if word == "add":
        return (word, name, (source.choice(kinds), source.choice(kinds[:-1] or kinds)))
    if word == "frame":
        return (word, name, end(), end())
    return (word, name)


class Boards(Refusing):

    def same(self, board, model):
        """The board tells what the model tells."""
        jobs = model.jobs()
        self.assertEqual(board.kinds, tuple(model.kinds))
        self.assertEqual(board.jobs, tuple(sorted(jobs.items())))
        self.assertEqual(board.row, tuple(model.row))
        self.assertTrue(is_row(Book(model.kinds), board.row))
        self.assertEqual(board.crowd, tuple((kind, list(jobs.values()).count(kind)) for kind in sorted(set(jobs.values()))))
        self.assertTrue(is_crowd(Book(model.kinds), board.crowd))
        self.assertEqual((board.names, len(board)), (tuple(sorted(model.books)), len(model.books)))
        for name in board.names:
            self.assertEqual(board[name], model.book(name))
        self.assertEqual(board.frames, tuple(sorted(
            (name, *[None if end is None else end.text for end in frame]) for name, frame in model.frames.items())))

    def same_answers(self, board, model):
        for name in board.names:
            hosts = model.hosts(name)
            self.assertEqual((board.hosts(name), board.used(name)), (hosts, len(hosts)))
            above = [other for other in model.books if other != name and model.books[name] <= model.books[other]]
            self.assertEqual(board.above(name), tuple(sorted(above)))
            if len(model.jobs()) < 8:
                try:
                    spare = board.spare(name)
                except NoTree:
                    continue
                self.assertEqual(spare, len(hosts) - least_need(model.book(name), model.jobs().values()))
        self.assertEqual(board.doubled(), tuple(sorted(
            name for name in model.books if any(other < name and model.books[other] == model.books[name]
                                                for other in model.books))))


class Deeds(Boards):

    def check_deed(self, board, model, deed):
        refused = model.refusal(deed)
        if refused:
            with self.assertRaises((LookupError, ValueError)) as caught:
                do(board, deed)
            self.assertEqual((type(caught.exception).__name__, *vars(caught.exception).values()), refused, deed)
            return refused[0]
        came = len([word for word, _ in model.row if word == "come"])
        model.do(deed)
        self.assertEqual(do(board, deed), came if deed[0] == "come" else None)
        return deed[0]

    def test_against_the_model(self):
        met = {}
        for seed in range(25):
            source = random.Random(seed)
            kinds = KINDS[:source.choice((2, 3, 4))]
            board, model = Board(source.sample(kinds, len(kinds))), Model(kinds)
            for _ in range(60):
                chance = source.random()
                if chance < 0.1:
                    self.assertIs(board.undo(), model.undo())
                elif chance < 0.25:
                    deeds = tuple(some_deed(source, model) for _ in range(source.randint(0, 3)))
                    self.check_attempt(board, model, deeds)
                else:
                    word = self.check_deed(board, model, some_deed(source, model))
                    met[word] = met.get(word, 0) + 1
                self.same(board, model)
            self.same_answers(board, model)
            while model.past:
                self.assertIs(board.undo(), model.undo())
                self.same(board, model)
            self.assertEqual((board == Board(kinds), board.undo()), (True, False))
        self.assertEqual(sorted(met), ["NoBook", "NoFrame", "NoJob", "NoKind", "OtherKinds", "Outside", "add", "come",
                                       "frame", "go", "leave", "lift", "set"])
        self.assertGreater(min(met.values()), 5)

    def check_attempt(self, board, model, deeds):
        told = model.attempt(deeds)
        if told is None:
            self.assertIsNone(board.attempt(deeds))
        else:
            self.refuses(Stopped, dict(zip(("number", "raised", "value"), told)), board.attempt, lists_for(deeds))

    def test_numbers_of_comings(self):
        board = Board(KINDS)
        self.assertEqual([board.come("a"), board.come("b"), board.go(0), board.come("a")], [0, 1, None, 2])
        self.assertEqual([board.undo(), board.come("d"), board.undo(), board.undo(), board.undo(), board.come("c")],
                         [True, 2, True, True, True, 1])
        self.assertEqual(board.jobs, ((0, "a"), (1, "c")))

    def test_what_changes_nothing_is_a_deed(self):
        board = Board(KINDS)
        board["old"] = OLD
        board["old"] = OLD
        board += ("old", ("a", "b"))
        board.frame("old", None, None)
        board.frame("old", None, None)
        board.attempt(())
        self.assertEqual(board.frames, (("old", None, None),))
        self.assertEqual([board.undo() for _ in range(3)], [True] * 3)
        self.assertEqual((board.frames, board["old"]), ((), OLD))
        self.assertEqual([board.undo(), board["old"], board.undo(), board["old"], board.undo(), board.names, board.undo()],
                         [True, OLD, True, OLD, True, (), False])

    def test_an_attempt_is_one_deed(self):
        board = Board(KINDS)
        board.come("a")
        before = board.twin()
        self.assertIsNone(board.attempt((("come", "b"), ("go", 0), ("set", "x", OLD), ("frame", "x", None, FULL),
                                         ("add", "x", ("d", "a")), ("lift", "x"), ("set", "y", NEW), ("leave", "x"))))
        self.assertEqual((board.jobs, board.names), (((1, "b"),), ("y",)))
        self.assertIs(board.undo(), True)
        self.assertEqual(board, before)
        self.assertIs(board.undo(), True)
        self.assertIs(board.undo(), False)

    def test_stopped(self):
        board = Board(KINDS)
        board["old"] = OLD
        board.frame("old", NEW, None)
        before = board.twin()
        for deeds, kept in (
                ((("come", "x"),), (0, "NoKind", "x")), ((("come", "a"), ("go", 1)), (1, "NoJob", 1)),
                ((("leave", "old"), ("leave", "old")), (1, "NoBook", "old")),
                ((("come", "a"), ("come", "b"), ("lift", "old"), ("lift", "old")), (3, "NoFrame", "old")),
                ((("set", "new", Book(("a",))),), (0, "OtherKinds", "b")),
                ((("come", "a"), ("set", "old", BARE)), (1, "Outside", "old")),
                ((("add", "new", ("a", "b")),), (0, "NoBook", "new")),
                ((("add", "old", ("a", "y")),), (0, "NoKind", "y")),
                ((("frame", "old", FULL, None), ("come", "y")), (0, "Outside", "old")),
                ((("frame", "old", None, Book(("x", "z"))),), (0, "OtherKinds", "a"))):
            for given in (deeds, lists_for(deeds)):
                self.refuses(Stopped, dict(zip(("number", "raised", "value"), kept)), board.attempt, given)
                self.assertEqual((board == before, before.twin() == board), (True, True))
        self.assertEqual([board.undo(), board.undo(), board.undo()], [True, True, False])
        self.assertIsNone(board.attempt(deeds=[["come", "a"]]))

    def test_refused_deeds_change_nothing_and_are_not_taken_back(self):
        board = Board(KINDS)
        board["old"] = NEW
        board.frame("old", None, NEW)
        board.come("a")
        before = board.twin()
        self.refuses(NoKind, {"kind": "e"}, board.come, "e")
        self.refuses(NoKind, {"kind": "e"}, board.come, kind="e")
        for job in (1, -1, 10 ** 40):
            self.refuses(NoJob, {"job": job}, board.go, job)
        self.refuses(NoBook, {"name": "new"}, board.leave, "new")
        self.refuses(NoFrame, {"name": "old"}, Board.lift, self.lifted(before), "old")
        self.refuses(Outside, {"name": "old"}, board.__setitem__, "old", OLD)
        self.refuses(Outside, {"name": "old"}, board.__iadd__, ("old", ["b", "b"]))
        self.refuses(Outside, {"name": "old"}, board.frame, "old", OLD, None)
        self.refuses(Outside, {"name": "old"}, board.frame, "old", None, BARE)
        self.refuses(OtherKinds, {"kind": "c"}, board.__setitem__, "x", Book(("a", "b", "d", "e")))
        self.assertEqual(board, before)
        self.assertEqual([board.undo() for _ in range(4)], [True, True, True, False])

    def lifted(self, board):
        other = board.twin()
        other.lift("old")
        return other

    def test_which_error_comes_first(self):
        board = Board(KINDS)
        other = Book(("a", "b"))
        self.refuses(NoBook, {"name": "x"}, board.__iadd__, ("x", ("e", "f")))
        self.refuses(NoBook, {"name": "x"}, board.frame, "x", other, other)
        self.refuses(NoBook, {"name": "x"}, board.lift, "x")
        self.refuses(NoBook, {"name": "x"}, board.effect, "x", other)
        self.refuses(NoBook, {"name": "x"}, board.spare, "x")
        board["x"] = OLD
        self.refuses(NoFrame, {"name": "x"}, board.lift, "x")
        self.refuses(OtherKinds, {"kind": "d"}, board.frame, "x", FULL.without("d"), Book(("e",)))
        self.refuses(OtherKinds, {"kind": "b"}, board.frame, "x", FULL, Book(("a",)))
        board.frame("x", OLD, OLD)
        self.refuses(OtherKinds, {"kind": "c"}, board.__setitem__, "x", other)
        self.refuses(NoKind, {"kind": "e"}, board.__iadd__, ("x", ("e", "f")))
        self.refuses(NoKind, {"kind": "f"}, board.__iadd__, ("x", ("a", "f")))
        self.refuses(Outside, {"name": "x"}, board.__iadd__, ("x", ("a", "a")))
        self.refuses(NoTree, {"four": ("a", "b", "c", "d")}, board.spare, "x")

    def test_frames(self):
        board = Board(KINDS)
        board["x"] = NEW
        self.assertIsNone(board.frame(high=FULL, low=BARE, name="x"))
        board["x"] = OLD
        board["x"] = FULL
        self.assertEqual(board.frames, (("x", BARE.text, FULL.text),))
        board.frame("x", OLD, None)
        self.assertEqual(board.frames, (("x", OLD.text, None),))
        self.refuses(Outside, {"name": "x"}, board.__setitem__, "x", NEW)
        board["x"] = OLD
        board += ["x", ["d", "a"]]
        self.assertEqual(board["x"].text, "a b c d; a-b a-d b-c c-d")
        board.leave("x")
        self.assertEqual(board.frames, ())
        board["x"] = BARE
        self.assertEqual(board.frames, ())
        self.assertIs(board.undo(), True)
        self.assertIs(board.undo(), True)
        self.assertEqual(board.frames, (("x", OLD.text, None),))
        board["a"] = NEW
        board.frame("a", None, None)
        self.assertEqual(board.frames, (("a", None, None), ("x", OLD.text, None)))
        self.assertIsNone(board.lift(name="a"))
        self.assertIsNone(board.leave(name="a"))


class States(Boards):

    def test_beginning(self):
        for given, kinds in (((), ()), (("c", "a", "b"), ("a", "b", "c")), (["b"], ("b",))):
            board = Board(given)
            self.assertEqual((board.kinds, board.jobs, board.crowd, board.row, board.names, board.frames, len(board)),
                             (kinds, (), (), (), (), (), 0))
            self.assertEqual((board.undo(), board.doubled(), "x" in board), (False, (), False))
        self.assertEqual((Board(), Board(kinds=("b", "a"))), (Board(()), Board(("a", "b"))))
        self.refuses(Twice, {"kind": "a"}, Board, ("b", "a", "c", "a", "b"))
        self.refuses(Twice, {"kind": "b"}, Board, kinds=["b", "b", "a", "a"])

    def test_without_kinds(self):
        board = Board()
        self.refuses(NoKind, {"kind": "a"}, board.come, "a")
        board["x"] = Book(())
        board.frame("x", Book(()), Book(()))
        self.assertEqual((board.hosts("x"), board.used("x"), board.spare("x"), board.frames), ((), 0, 0, (("x", "-", "-"),)))
        self.refuses(OtherKinds, {"kind": "a"}, board.__setitem__, "y", Book(("a",)))

    def test_books_by_names(self):
        board = Board(KINDS)
        board["b"] = OLD
        board["a"] = NEW
        self.assertEqual((len(board), "a" in board, "c" in board, board["b"], board.names), (2, True, False, OLD, ("a", "b")))
        self.assertEqual(board["a"], NEW)
        for act in (board.__getitem__, board.hosts, board.used, board.spare, board.above, board.leave, board.lift):
            self.refuses(NoBook, {"name": "c"}, act, "c")
        self.refuses(NoBook, {"name": "c"}, board.hosts, name="c")

    def test_can_not_be_gone_through(self):
        board = Board(KINDS)
        board["a"] = NEW
        for act in (iter, list, tuple, sorted, lambda one: [name for name in one], lambda one: dict([*one])):
            with self.assertRaises(TypeError):
                act(board)

    def test_properties_have_no_setters(self):
        board = Board(KINDS)
        for name in ("kinds", "jobs", "crowd", "row", "names", "frames"):
            with self.assertRaises(AttributeError):
                setattr(board, name, ())

    def test_equal(self):
        board, other = Board(("b", "a")), Board(("a", "b"))
        one = Book.of("a b; a-b")

        def step(act):
            act(board)
            self.assertIs(board == other, False)
            self.assertIs(board != other, True)
            act(other)
            self.assertIs(board == other, True)
            self.assertIs(board != other, False)

        for act in (lambda some: some.come("a"), lambda some: some.go(0), lambda some: do(some, ("set", "x", one)),
                    lambda some: some.frame("x", None, None), lambda some: some.frame("x", Book(("a", "b")), None),
                    lambda some: some.frame("x", Book(("a", "b")), Book.of("a b; a-a a-b")),
                    lambda some: some.lift("x"), lambda some: do(some, ("add", "x", ("b", "b"))),
                    lambda some: do(some, ("set", "y", one)), lambda some: some.leave("x")):
            step(act)
        self.assertIs(Board(("a",)) == Board(("a", "b")), False)
        # What was taken back does not count.
        board.come("a")
        board.undo()
        self.assertEqual(board, other)
        came, gone = Board(("a",)), Board(("a",))
        came.come("a")
        came.go(0)
        self.assertIs(came == gone, False)
        for thing in (*STRANGE, object(), Keeper("first"), 1, Book(("a", "b"))):
            self.assertIs(board == thing, False)
            self.assertIs(thing == board, False)

    def test_row_and_crowd(self):
        board = Board(KINDS)
        for kind in "dadba":
            board.come(kind)
        board.go(1)
        board.go(2)
        self.assertEqual(board.jobs, ((0, "d"), (3, "b"), (4, "a")))
        self.assertEqual(board.crowd, (("a", 1), ("b", 1), ("d", 1)))
        self.assertEqual(board.row, (*[("come", kind) for kind in "dadba"], ("go", 1), ("go", 2)))
        board.undo()
        self.assertEqual((board.crowd, board.row[-1]), ((("a", 1), ("b", 1), ("d", 2)), ("go", 1)))
        self.assertIsNone(board.go(job=0))

    def test_hosts_that_close_do_not_come_back(self):
        board = Board(("a", "b"))
        board["x"] = Book.of("a b; a-b")
        board["own"] = Book.of("a b; a-a a-b b-b")
        for deed in (("come", "a"), ("come", "b"), ("go", 0), ("come", "a"), ("come", "b")):
            do(board, deed)
        self.assertEqual((board.hosts("x"), board.used("x")), (((1, (1, 3)), (2, (2,))), 2))
        self.assertEqual((board.hosts(name="own"), board.used(name="own")), (((1, (1,)), (2, (2,)), (3, (3,))), 3))
        # A BOOK that comes late, and one that is changed, tell what they would have done from the beginning.
        board["late"] = Book(("a", "b"))
        self.assertEqual(board.hosts("late"), ((0, (1, 2, 3)),))
        board["late"] = Book.of("a b; b-b")
        self.assertEqual(board.hosts("late"), ((0, (1, 2)), (1, (3,))))

    def test_spare(self):
        board = Board(("p", "q", "s"))
        board["x"] = Book.of("p q s; p-q")
        for deed in (("come", "p"), ("come", "q"), ("come", "s"), ("go", 0), ("come", "q"), ("come", "p")):
            do(board, deed)
        self.assertEqual((board.used("x"), board.spare("x"), board.spare(name="x")), (3, 1, 1))
        board = Board(KINDS)
        board["x"] = OLD
        # Even without JOBS a BOOK without a tree has no answer.
        self.refuses(NoTree, {"four": ("a", "b", "c", "d")}, board.spare, "x")
        board["x"] = NEW
        self.assertEqual(board.spare("x"), 0)

    def test_above_doubled_effect(self):
        books = list(all_books(("a", "b")))
        board = Board(("a", "b"))
        for at, book in enumerate([*books, *books[:3]]):
            board[chr(97 + at)] = book
        for at, name in enumerate(board.names):
            mine = set(board[name].clashes)
            self.assertEqual(board.above(name), tuple(other for other in board.names if other != name
                                                      and mine <= set(board[other].clashes)))
            for book in books:
                theirs = set(book.clashes)
                told = "alike" if mine == theirs else "within" if mine < theirs else "around" if mine > theirs else "neither"
                self.assertEqual(board.effect(name, book), told)
        self.assertEqual(board.doubled(), ("i", "j", "k"))
        self.assertEqual(board.effect(book=books[0], name="a"), "alike")
        self.refuses(OtherKinds, {"kind": "b"}, board.effect, "a", Book(("a", "c")))
        self.refuses(NoBook, {"name": "z"}, board.effect, "z", Book(("a", "c")))
        # Nothing was changed by asking.
        self.assertEqual([board.undo() for _ in range(12)], [True] * 11 + [False])

    def test_twins_go_on_by_themselves(self):
        board = Board(KINDS)
        board.come("a")
        board["x"] = OLD
        board.frame("x", NEW, None)
        twin = board.twin()
        self.assertIsNot(twin, board)
        self.assertEqual(twin, board)
        self.assertEqual(twin.come("b"), 1)
        twin.leave("x")
        self.assertEqual((board.jobs, board.names, len(board.frames)), (((0, "a"),), ("x",), 1))
        board.lift("x")
        board += ("x", ("a", "a"))
        self.assertEqual(twin.names, ())
        self.assertEqual([twin.undo() for _ in range(6)], [True] * 5 + [False])
        self.assertEqual(twin, Board(KINDS))
        self.assertEqual((board["x"].text, board.frames), ("a b c d; a-a a-b b-c c-d", ()))
        self.assertEqual([board.undo() for _ in range(6)], [True] * 5 + [False])
        self.assertEqual(board, twin)

    def test_arguments_are_copied(self):
        kinds, pair, deeds = ["b", "a"], ["a", "b"], [["come", "a"], ["add", "x", ["b", "b"]]]
        board = Board(kinds)
        kinds.append("c")
        board["x"] = Book(("a", "b"))
        board += ["x", pair]
        pair[0] = "b"
        board.attempt(deeds)
        self.assertEqual(deeds, [["come", "a"], ["add", "x", ["b", "b"]]])
        deeds[0].append("z")
        deeds.clear()
        self.assertEqual((board.kinds, board["x"].text, board.jobs), (("a", "b"), "a b; a-b b-b", ((0, "a"),)))

    def test_the_bounds(self):
        source = random.Random(1)
        board, model = Board(NAMES), Model(NAMES)
        names = ["name" + chr(97 + at) for at in range(8)]
        for name, book in zip(names, [*some_books(NAMES, 4, 2), Book(NAMES), Book(NAMES).turned(),
                                      Book(NAMES, list(zip(NAMES, NAMES))), Book(NAMES, [NAMES[:2]])]):
            for deed in (("set", name, book), ("frame", name, None, Book(NAMES).turned())):
                model.do(deed)
                do(board, deed)
        while len(model.past) < 140:
            jobs = model.jobs()
            deed = ("go", source.choice(list(jobs))) if jobs and source.random() < 0.3 else ("come", source.choice(NAMES))
            model.do(deed)
            do(board, deed)
        self.same(board, model)
        self.same_answers(board, model)
        for name in names[4:]:
            self.assertGreaterEqual(board.spare(name), 0)
        self.assertEqual([board.undo() for _ in range(141)], [True] * 140 + [False])


if __name__ == "__main__":
    unittest.main()
