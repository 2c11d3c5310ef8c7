"""A desk (promises 2, 3 and 16)."""

import random
import unittest

from onehostmore.board import Board
from onehostmore.books import Book
from onehostmore.desk import answers
from onehostmore.errors import BadLine, NoBook, NoFrame, NoJob, NoKind, Outside
from things import Refusing, many_kinds, pairs_of

FIRST = "kinds a b c"
REQUESTS = ("come a", "go 0", "book x a-b b-c", "leave x", "lift x", "add x a-b", "frame x from a-b .. *", "jobs", "crowd",
            "hosts x", "used x", "above x", "doubled", "effect x a-a", "undo")


def done(act, *given):
    act(*given)
    return "done"


class Plain:
    """A Board that does what the requests ask, which are told as tuples."""

    def __init__(self, kinds):
        self.kinds, self.board = kinds, Board(kinds)

    def book(self, clashes):
        return None if clashes == "*" else Book(self.kinds, clashes)

    def change(self, word, given):
        if word == "come":
            return str(self.board.come(given[0]))
        if word == "book":
            self.board[given[0]] = self.book(given[1])
        elif word == "add":
            self.board += (given[0], given[1])
        elif word == "frame":
            self.board.frame(given[0], self.book(given[1]), self.book(given[2]))
        else:
            getattr(self.board, word)(*given)
        return "done"

    def told(self, word, *given):
        board = self.board
        if word == "jobs":
            return " ".join("{}:{}".format(*pair) for pair in board.jobs) or "-"
        if word == "crowd":
            return ", ".join("{} {}".format(*pair) for pair in board.crowd) or "-"
        if word == "hosts":
            hosts = [str(host) + ":" + "".join(" " + str(job) for job in jobs) for host, jobs in board.hosts(*given)]
            return ", ".join(hosts) or "-"
        if word == "used":
            return str(board.used(*given))
        if word in ("above", "doubled"):
            return " ".join(getattr(board, word)(*given)) or "-"
        if word == "effect":
            return board.effect(given[0], self.book(given[1]))
        if word == "undo":
            return "yes" if board.undo() else "no"
        return self.change(word, given)

    def answer(self, request):
        before = self.board.twin()
        try:
            return self.told(*request)
        except (NoKind, NoJob, NoBook, NoFrame, Outside) as error:
            assert self.board == before
            return "refused " + type(error).__name__


def line_of(word, *given):
    """How a request is written."""
    def clashes(pairs):
        return "*" if pairs == "*" else " ".join(map("-".join, pairs)) or "-"

    if word in ("book", "effect"):
        return f"{word} {given[0]} {clashes(given[1])}"
    if word == "frame":
        return f"{word} {given[0]} from {clashes(given[1])} .. {clashes(given[2])}"
    if word == "add":
        return f"{word} {given[0]} {'-'.join(given[1])}"
    return " ".join(map(str, (word, *given)))


def some_request(source, kinds):
    def clashes():
        return tuple(pair for pair in pairs_of(kinds) if source.random() < 0.4)

    def end():
        return source.choice(["*", "*", (), tuple(pairs_of(kinds)), clashes()])

    word = source.choice(["come"] * 4 + ["go"] * 2 + ["book"] * 2 + ["leave", "lift", "add", "add", "frame", "frame", "jobs",
                                                                    "crowd", "hosts", "used", "above", "doubled", "effect", "undo"])
    name = source.choice(("x", "y", "old"))
    if word == "come":
        return (word, source.choice([*kinds, *kinds, "zz"]))
    if word == "go":
        return (word, source.randint(0, 8))
    if word in ("book", "effect"):
        return (word, name, clashes())
    if word == "add":
        return (word, name, tuple(sorted((source.choice([*kinds, *kinds, "zz"]), source.choice([*kinds, *kinds, "y"])))))
    if word == "frame":
        return (word, name, end(), end())
    return (word,) if word in ("jobs", "crowd", "doubled", "undo") else (word, name)


class Desk(Refusing):

    def test_against_a_board(self):
        met = {}
        for seed in range(300):
            source = random.Random(seed)
            kinds = ("a", "b", "c")[:source.randint(0, 3)]
            requests = [some_request(source, kinds) for _ in range(source.randint(0, 59))]
            plain = Plain(kinds)
            told = ["done", *[plain.answer(request) for request in requests]]
            text = "\n".join([" ".join(["kinds", *kinds]), *[line_of(*request) for request in requests]])
            found = answers(text)
            self.assertEqual(found, told, text)
            self.assertIs(type(found), list)
            for request, answer in zip(requests, told[1:]):
                if answer.startswith("refused"):
                    met[request[0], answer] = True
        for key in (("come", "NoKind"), ("go", "NoJob"), ("leave", "NoBook"), ("lift", "NoBook"), ("lift", "NoFrame"),
                    ("add", "NoBook"), ("add", "NoKind"), ("add", "Outside"), ("frame", "NoBook"), ("frame", "Outside"),
                    ("book", "Outside"), ("hosts", "NoBook"), ("used", "NoBook"), ("above", "NoBook"), ("effect", "NoBook")):
            self.assertIn((key[0], "refused " + key[1]), met)

    def test_each_request(self):
        self.assertEqual(answers(FIRST + "\ncome a\ncome b\ngo 0\njobs\ncrowd"), ["done", "0", "1", "done", "1:b", "b 1"])
        self.assertEqual(answers(FIRST + "\nbook x a-b\nbook y a-b\nbook z -\ndoubled\nabove z\nabove x\nleave y\ndoubled"),
                         ["done", "done", "done", "done", "y", "x y", "y", "done", "-"])
        self.assertEqual(answers(FIRST + "\nbook x -\nhosts x\nused x\ncome a\ncome a\nadd x a-a\nhosts x\nused x"),
                         ["done", "done", "-", "0", "0", "1", "done", "0: 0, 1: 1", "2"])
        self.assertEqual(answers(FIRST + "\nbook x a-b\neffect x a-b\neffect x -\neffect x a-b c-c\neffect x a-c"),
                         ["done", "done", "alike", "around", "within", "neither"])
        self.assertEqual(answers(FIRST + "\nbook x a-b\nframe x from - .. a-b b-b\nadd x b-b\nadd x a-a\nbook x a-a\nlift x\n"
                                 "add x a-a\nlift x"),
                         ["done", "done", "done", "done", "refused Outside", "refused Outside", "done", "done", "refused NoFrame"])
        self.assertEqual(answers(FIRST + "\nundo\ncome a\ncome x\nundo\nundo\njobs\ncrowd\ndoubled"),
                         ["done", "no", "0", "refused NoKind", "yes", "no", "-", "-", "-"])
        self.assertEqual(answers(FIRST + "\nbook x -\nframe x from * .. *\nadd x x-y\nadd y x-y\nadd x a-z"),
                         ["done", "done", "done", "refused NoKind", "refused NoBook", "refused NoKind"])
        self.assertEqual(answers(text="kinds\nbook x -\neffect x -\nframe x from - .. -\ncome a"),
                         ["done", "done", "alike", "done", "refused NoKind"])

    def test_edges(self):
        self.assertEqual((answers(""), answers("kinds"), answers("kinds a b"), answers(FIRST)),
                         ([], ["done"], ["done"], ["done"]))
        found = answers("")
        found.append("x")
        self.assertEqual(answers(""), [])
        words = "kinds book come from go kinds\ncome from\nbook from come-from\nframe from from * .. come-from from-go\nused from"
        self.assertEqual(answers(words), ["done", "0", "done", "done", "1"])

    def check(self, text, number):
        self.refuses(BadLine, {"number": number}, answers, text)

    def test_bad_first_lines(self):
        for line in (" ", "kind", "kinds ", " kinds", "kinds  a", "kinds a ", "kinds b a", "kinds a a", "kinds A", "kinds a1", "kinds -",
                     "Kinds a", "jobs", "kinds a,b", "kinds a-b", "kinds *", "kinds \u00e9", "\n", "kinds\r"):
            self.check(line, 0)
            self.check(line + "\ncome a", 0)

    def test_bad_lines(self):
        bad = ["", " ", "x", "come", "come ", "come a b", "come A", "come 1", " come a", "come a ", "come  a", "Come a", "kinds a b c",
               "go", "go a", "go -1", "go 01", "go 00", "go +1", "go 1 2", "go ", "go 1.", "go \u0661", "go 1_0", "go 0x1",
               "book", "book x", "book x ", "book X a-b", "book x a-b a-b", "book x b-a", "book x b-c a-b", "book x a-d", "book x d-d",
               "book x a", "book x a-", "book x -b", "book x a-b-c", "book x a--b", "book x - a-b", "book x a-b -", "book x - -",
               "book x a-b  b-c", "book  x a-b", "book x a-b ", "book x *", "book x a-B", "book x a-b,b-c", "book x: a-b", "book x --",
               "leave", "leave x y", "leave X", "leave x ", "leave 1", "lift", "lift x y", "lift ", "lift x1",
               "add", "add x", "add x a", "add x a-", "add x -a", "add x b-a", "add x a-b c-c", "add x a-b-c", "add X a-b", "add x a-b ",
               "add x *", "add x -", "add x a b", "add x A-b", "add  x a-b",
               "frame x", "frame x from", "frame x from * ..", "frame x from .. *", "frame x from * *", "frame x * .. *",
               "frame x from * .. * ", "frame x from * .. b-a", "frame x from a-d .. *", "frame x from * .. a-b a-b",
               "frame X from * .. *", "frame x from  * .. *", "frame x from * .. * .. *", "frame x from * - .. *", "frame from * .. *",
               "frame x From * .. *", "frame x from *  .. *", "frame x from * ... *", "frame x from *..*", "frame x from - a-b .. *",
               "hosts x from * .. *", "x x from * .. *", "add x from * .. *", "frame x to * .. *", "frame x ..",
               "frame x from ..", "frame", "frame x from a-b .. b-c a-b",
               "jobs ", "jobs x", " jobs", "Jobs", "crowd x", "crowd ", "hosts", "hosts x y", "hosts X", "hosts ", "hosts x ",
               "used", "used x y", "used 1", "above", "above x y", "above ", "doubled x", "doubled ", "effect", "effect x",
               "effect x b-a", "effect x a-d", "effect x *", "effect X a-b", "effect x a-b a-b", "undo x", "undo ", "undo 1",
               "done", "spare x", "twin", "attempt", "end", "row *", "come a\r", "come \u00e9", "come a\tb", "\u00e9"]
        for line in bad:
            self.check(FIRST + "\n" + line, 1)
            self.check(FIRST + "\ncome a\nhosts x\n" + line + "\ncome b\n" + "x", 3)
        for line in REQUESTS:
            self.assertEqual(len(answers(FIRST + "\n" + line)), 2)
            for other in (" " + line, line + " ", line.replace(" ", "  ", 1) + "  ", line.upper(), line + "\n", line + "\n ",
                          "\n" + line, line + " x y"):
                wrong = 2 if other.startswith(line + "\n") else 1
                self.check(FIRST + "\n" + other, wrong)

    def test_bad_line_comes_ahead_of_all_answers(self):
        self.check(FIRST + "\ngo 5\ncome x\nlift x\nhosts x\ncome a\nx", 6)
        self.check("kinds b a\nx\ny", 0)
        # A KIND or a NAME that is none is no reason; a PAIR of CLASHES of unknown kinds is.
        self.assertEqual(answers(FIRST + "\nadd x y-z\ncome zz\nhosts zz"),
                         ["done", "refused NoBook", "refused NoKind", "refused NoBook"])
        self.check(FIRST + "\nbook x y-z", 1)
        self.check("kinds\nbook x a-a", 1)

    def test_the_bounds(self):
        kinds = many_kinds(40)
        source = random.Random(1)
        pairs = source.sample(pairs_of(kinds), 600)
        lines = [" ".join(["kinds", *kinds]), line_of("book", "x", sorted(pairs)), line_of("frame", "x", (), "*")]
        while len(lines) < 58:
            lines.append("come " + source.choice(kinds))
        lines += ["hosts x", "used x"]
        plain = Plain(kinds)
        plain.board["x"] = Book(kinds, pairs)
        for line in lines[3:58]:
            plain.board.come(line.split(" ")[1])
        self.assertEqual(answers("\n".join(lines))[-2:], [plain.told("hosts", "x"), plain.told("used", "x")])
        name = "n" * 1900
        self.assertEqual(answers(f"kinds\nbook {name} -\nbook {name}a -\ndoubled\ngo {'9' * 3990}\ngo 1{'0' * 5000}"),
                         ["done", "done", "done", name + "a", "refused NoJob", "refused NoJob"])


if __name__ == "__main__":
    unittest.main()
