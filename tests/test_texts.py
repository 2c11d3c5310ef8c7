"""Texts of CROWDs and Boards (promises 2, 3 and 15)."""

import random
import unittest

from onehostmore.board import Board
from onehostmore.books import Book
from onehostmore.errors import BadLine, BadText
from onehostmore.texts import board_in, board_text, crowd_in, crowd_text
from test_board import Model, do, some_deed
from things import Refusing, lists_for, many_kinds, some_books, some_row

BIG = 10 ** 40
WHOLE = "kinds a b c\nrow a b -0 a c -3\nnew: a b c\nold: a b c; a-b b-c\nnew from * .. *\nold from a b c; a-b .. a b c; a-a a-b b-c\nend"


class Crowds(Refusing):

    def test_there_and_back(self):
        source = random.Random(1)
        for most in (9, 1000, BIG):
            for many in range(8):
                kinds = sorted(source.sample(many_kinds(40), many))
                crowd = tuple((kind, source.randint(1, most)) for kind in kinds)
                text = ", ".join(kind + " " + str(number) for kind, number in crowd) or "-"
                self.assertEqual((crowd_text(crowd), crowd_text(lists_for(crowd)), crowd_in(text)), (text, text, crowd))
        self.assertEqual((crowd_text(crowd=[["a", 1]]), crowd_in(text="a 1")), ("a 1", (("a", 1),)))
        self.assertEqual((crowd_text(()), crowd_in("-")), ("-", ()))

    def test_long_texts(self):
        kind = "k" * 1990
        self.assertEqual(crowd_in(f"{kind} 12"), ((kind, 12),))
        digits = "9" * 3990
        found = crowd_in("a " + digits)
        self.assertEqual(found, (("a", 10 ** 3990 - 1),))
        self.assertEqual(crowd_text(found), "a " + digits)
        self.assertEqual(crowd_in("a 1" + "0" * 5000)[0][1], 10 ** 5000)

    def test_bad_texts(self):
        for text in ("", " ", "a", "a ", " a 1", "a 1 ", "a  1", "a 0", "a 01", "a +1", "a -1", "a 1.0", "a 1_0", "A 1", "a1 1",
                     "1 a", "a 1,b 2", "a 1,  b 2", "a 1 , b 2", "a 1, b", "a 1, ", ", a 1", "a 1, b 2,", "b 1, a 2", "a 1, a 2",
                     "a 1, a 1", "a 1, -", "--", "- ", "-\n", "a 1\n", "a 1\nb 2", "a\t1", "a 1, b 0", "a 1;b 2", "a b 1",
                     "a 1 1", "\u00e9 1", "a \u00b2", "a \u0661", "\u0430 1", "a 1, b 2, aa 3", "()", "a 1, b 2, b 3"):
            self.refuses(BadText, {}, crowd_in, text)
        self.assertEqual(crowd_in("a 1, aa 3, b 2"), (("a", 1), ("aa", 3), ("b", 2)))

    def test_texts_that_differ_in_one_sign(self):
        text = "a 10, bc 2"
        for at in range(len(text) + 1):
            for sign in ("", " ", "a", "z", "0", "1", ",", "-", "\n", "\u00b9"):
                for other in (text[:at] + sign + text[at:], text[:at] + sign + text[at + 1:]):
                    try:
                        found = crowd_in(other)
                    except BadText:
                        continue
                    self.assertEqual(crowd_text(found), other)


class Boards(Refusing):

    def told_text(self, model):
        """The text of a model of a board."""
        lines = [" ".join(["kinds", *model.kinds])]
        lines.append(" ".join(["row", *([what if word == "come" else "-" + str(what) for word, what in model.row] or ["*"])]))
        lines += [name + ": " + model.book(name).text for name in sorted(model.books)]
        for name in sorted(model.frames):
            low, high = ["*" if end is None else end.text for end in model.frames[name]]
            lines.append(name + " from " + low + " .. " + high)
        return "\n".join([*lines, "end"])

    def test_there_and_back(self):
        for seed in range(40):
            source = random.Random(seed)
            kinds = tuple("abcd")[:source.randint(0, 4)]
            board, model = Board(kinds), Model(kinds)
            for _ in range(source.randint(0, 40)):
                deed = some_deed(source, model)
                if model.refusal(deed) is None:
                    model.do(deed)
                    do(board, deed)
            text = board_text(board)
            self.assertEqual(text, self.told_text(model))
            made = board_in(text)
            self.assertEqual((made, board_text(made)), (board, text))
            self.assertIs(type(made), Board)
            self.assertIs(made.undo(), False)
            self.assertEqual((made.jobs, made.row, made.frames), (board.jobs, board.row, board.frames))
            # It goes on by itself.
            made.attempt(())
            if kinds:
                self.assertEqual(made.come("a"), len([word for word, _ in model.row if word == "come"]))
            self.assertEqual(board_text(board), text)

    def test_edges(self):
        self.assertEqual(board_text(Board()), "kinds\nrow *\nend")
        self.assertEqual(board_in("kinds\nrow *\nend"), Board())
        board = Board(("b", "a"))
        board["from"] = Book(("a", "b"))
        board["end"] = Book.of("a b; a-b")
        board.frame("from", Book(("a", "b")), None)
        self.assertEqual(board_text(board=board), "kinds a b\nrow *\nend: a b; a-b\nfrom: a b\nfrom from a b .. *\nend")
        self.assertEqual(board_in(text=board_text(board)), board)
        words = "kinds end from kinds row\nrow row end -0 kinds from\nrow: end from kinds row\n" \
                "row from end from kinds row .. end from kinds row; end-end\nend"
        self.assertEqual(board_text(board_in(words)), words)
        self.assertEqual(board_text(board_in("kinds\nrow *\nx: -\nx from - .. -\nend")), "kinds\nrow *\nx: -\nx from - .. -\nend")
        self.assertEqual(board_text(board_in(WHOLE)), WHOLE)

    def check(self, text, number):
        self.refuses(BadLine, {"number": number}, board_in, text)

    def with_line(self, number, line):
        lines = WHOLE.split("\n")
        return "\n".join([*lines[:number], line, *lines[number + 1:]])

    def test_bad_lines(self):
        for number, lines in (
                (0, ("", "kind a b c", "kinds ", "kinds a  b c", "kinds a b c ", " kinds a b c", "kinds b a c", "kinds a a b c",
                     "kinds a b C", "kinds a b c1", "Kinds a b c", "kinds a,b", "kinds -", "kinds a b \u00e9", "row *", "end")),
                (1, ("", "row", "row ", "rows a", "row  a", "row a ", "row a  b", "row * a", "row a *", "row * *", "row x", "row -0",
                     "row a -1", "row a -0 -0", "row a -00", "row a - 0", "row a --0", "row a -", "row a 0", "row -", "row A",
                     "row a -0 b -0", "end", "kinds a b c", "new: a b c", "row a -\u0660", "row a, b", "row a -0x")),
                (2, ("", "new", "new:", "new: ", "new:a b c", "new : a b c", "new:  a b c", "New: a b c", "n1: a b c", ": a b c",
                     "new: a b", "new: a b c d", "new: -", "new: a b c;", "new: a b c; b-a", "new: a b c; a-b a-b", "new: c b a",
                     "new: a b c ", "new from * .. *", "row *", "kinds a b c", "new: a b c; a-x", "end ", "End", "new: a b x")),
                (3, ("new: a b c", "a: a b c", "new: a b c; a-b", "old: a b c; b-c a-b", "old: a b c; a-b  b-c", "")),
                (4, ("new from * .. * ", "new from *  .. *", "new from * ..", "new from *", "new from .. *", "new  from * .. *",
                     "new from * .. ", "from * .. *", "new from a b .. *", "new from * .. a b c d", "new from a b c; a-b .. *",
                     "new from * .. - .. *", "x from * .. *", "old: a b c", "new from * ... *", "new From * .. *", "aaa: a b c",
                     "new from ** .. *", "new from * .. a b c; b-a", "", "zzz from * .. *", "new from -", "new from - .. *")),
                (5, ("new from * .. *", "old from a b c; c-c .. *", "old from * .. a b c", "old from * .. a b c; a-b",
                     "old from a b c; a-b b-c c-c .. *", "mid from * .. *", "old: a b c; a-b b-c", "pen: a b c")),
                (6, ("", "END", "end ", " end", "ende", "en", "zzz from * .. *", "old from * .. *", "zzz: a b c", "row *"))):
            for line in lines:
                self.check(self.with_line(number, line), number)

    def test_missing_and_further_lines(self):
        lines = WHOLE.split("\n")
        for many in range(1, len(lines)):
            self.check("\n".join(lines[:many]), many)
            self.check("\n".join(lines[:many]) + "\n", many)
        self.check("", 0)
        self.check("\n", 0)
        for more in ("", "end", "new: a b c", "x", " "):
            self.check(WHOLE + "\n" + more, 7)
        self.check("\n" + WHOLE, 0)
        self.check("kinds a", 1)
        self.check("kinds\nrow *", 2)
        self.check(WHOLE.replace("\n", "\r\n"), 0)
        self.check(WHOLE.replace("\n", " "), 0)

    def test_each_line_left_out_or_twice_or_changed_with_the_next_one(self):
        lines = WHOLE.split("\n")
        # Without its first line; the row line; the BOOK whose frame comes later.
        for number, wrong in ((0, 0), (1, 1), (2, 3), (3, 4)):
            self.check("\n".join([*lines[:number], *lines[number + 1:]]), wrong)
        for number in (4, 5):
            text = "\n".join([*lines[:number], *lines[number + 1:]])
            self.assertEqual(board_text(board_in(text)), text)
        for number in range(7):
            self.check("\n".join([*lines[:number + 1], *lines[number:]]), number + 1)
        for number, wrong in ((0, 0), (1, 1), (2, 3), (3, 4), (4, 5), (5, 6)):
            self.check("\n".join([*lines[:number], lines[number + 1], lines[number], *lines[number + 2:]]), wrong)

    def test_the_first_wrong_line_counts(self):
        self.check(self.with_line(5, "x").replace("kinds a", "kinds  a"), 0)
        self.check(self.with_line(5, "x").replace("-3", "-4"), 1)
        self.check(self.with_line(4, "x").replace("\nend", "\nen"), 4)

    def test_texts_that_differ_in_one_sign(self):
        right = 0
        for at in range(len(WHOLE) + 1):
            for sign in ("", " ", "a", "-", "\n", ";", "*", "0", "\u00e9"):
                for other in {WHOLE[:at] + sign + WHOLE[at:], WHOLE[:at] + sign + WHOLE[at + 1:]}:
                    try:
                        made = board_in(other)
                    except BadLine as error:
                        # What stands ahead of the line that was changed is as it should be.
                        self.assertGreaterEqual(error.number, WHOLE.count("\n", 0, at))
                    else:
                        self.assertEqual(board_text(made), other)
                        right += 1
        self.assertGreater(right, 10)

    def test_strange_texts(self):
        for text in ("end", "kinds", " ", "\u00e9", "\x00", "kinds\u2028row *\u2028end", "kinds\rrow *\rend", "a" * 4000):
            with self.assertRaises(BadLine):
                board_in(text)

    def test_the_bounds(self):
        source = random.Random(2)
        kinds = many_kinds(40)
        board = Board(kinds)
        for at, book in enumerate(some_books(kinds, 8, 3)):
            name = "name" + chr(97 + at)
            board[name] = Book(kinds, source.sample(book.clashes, min(len(book.clashes), 300)))
            board.frame(name, Book(kinds), None)
        for word, what in some_row(source, kinds, 124):
            board.go(what) if word == "go" else board.come(what)
        text = board_text(board)
        self.assertLess(max(map(len, text.split("\n"))), 4001)
        made = board_in(text)
        self.assertEqual((made, board_text(made)), (board, text))
        long = "kinds a\nrow" + " a" * 1998 + "\nend"
        self.assertEqual(len(board_in(long).jobs), 1998)
        self.assertEqual(board_text(board_in(long)), long)
        for digits in ("9" * 3990, "1" + "0" * 5000):
            self.check(f"kinds a\nrow a -{digits}\nend", 1)
        kind = "k" * 3900
        self.assertEqual(board_in(f"kinds {kind}\nrow {kind}\nend").jobs, ((0, kind),))


if __name__ == "__main__":
    unittest.main()
