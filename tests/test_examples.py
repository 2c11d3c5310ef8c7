"""The examples of the document, as they stand there (tests/examples), section by section."""

import ast
import importlib
import pathlib
import unittest

from onehostmore import errors

FOLDER = pathlib.Path(__file__).resolve().parent / "examples"

# How many examples each section has, and the files of which it speaks.
SECTIONS = {
    3: (16, ("errors", "plain", "books", "patterns")),
    4: (9, ("trees", "sorts")),
    5: (15, ("crowds",)),
    6: (12, ("forced",)),
    7: (13, ("keepers",)),
    8: (8, ("runs",)),
    9: (11, ("most", "ranks", "game", "changes")),
    10: (11, ("arrangements",)),
    11: (9, ("logs",)),
    12: (4, ("growth",)),
    13: (12, ("board",)),
    14: (5, ("texts",)),
    15: (3, ("desk",)),
}


def examples(text):
    """The pairs of a statement and the line that is written below it, "" for none."""
    found = []
    for line in text.splitlines():
        if line.startswith(">>> "):
            found.append([line[4:], ""])
        else:
            assert found and not found[-1][1], line
            found[-1][1] = line
    return found


def read(section):
    return examples((FOLDER / f"section_{section:02}.txt").read_text(encoding="ascii"))


class Examples(unittest.TestCase):

    def check_error(self, statement, told, names):
        call = ast.parse(told, mode="eval").body
        with self.assertRaises(Exception) as caught:
            exec(statement, names)
        self.assertIs(type(caught.exception), getattr(errors, call.func.id))
        kept = {part.arg: ast.literal_eval(part.value) for part in call.keywords}
        self.assertEqual(vars(caught.exception), kept)

    def check(self, statement, told, names):
        if told.startswith("raises "):
            self.check_error(statement, told[len("raises "):], names)
        elif told:
            self.assertEqual(repr(eval(statement, names)), told)
        else:
            exec(statement, names)

    def test_examples(self):
        # What a section names is known in those behind it, too.
        names = {}
        for section, (_, files) in SECTIONS.items():
            for file in files:
                names.update(vars(importlib.import_module("onehostmore." + file)))
            for statement, told in read(section):
                with self.subTest(section=section, statement=statement):
                    self.check(statement, told, names)

    def test_none_is_left_out(self):
        self.assertEqual(sorted(path.name for path in FOLDER.iterdir()),
                         [f"section_{section:02}.txt" for section in SECTIONS])
        for section, (many, _) in SECTIONS.items():
            self.assertEqual(len(read(section)), many)

    def test_examples_of_the_readme(self):
        text = (FOLDER.parent.parent / "README.md").read_text(encoding="ascii")
        found = examples("\n".join(line[4:] for line in text.splitlines() if line.startswith(("    >>> ", "    ("))))
        self.assertGreater(len(found), 10)
        names = {}
        for statement, told in found:
            self.check(statement, told, names)

    def test_examples_that_raise_an_error(self):
        found = [told for section in SECTIONS for _, told in read(section) if told.startswith("raises")]
        self.assertEqual(found, [
            "raises Twice(kind='a')", "raises NoKind(kind='c')", "raises BadText()", "raises OtherKinds(kind='c')",
            "raises Known(kind='a')",
            "raises NoTree(four=('a', 'b', 'c', 'd'))", "raises BadText()",
            "raises NoTree(four=('a', 'b', 'c', 'd'))", "raises NoKind(kind='mail')",
            "raises NoKind(kind='zz')", "raises NoKeeper(given='best')", "raises NoNumber(number=4)",
            "raises Selfish(kind='b')", "raises NotLed()", "raises NoKind(kind='x')", "raises NoNumber(number=24)",
            "raises NoRoom(many=1)", "raises Outside(name='new')", "raises Stopped(number=1, raised='NoJob', value=0)",
            "raises BadText()", "raises BadLine(number=1)", "raises BadLine(number=0)"])


if __name__ == "__main__":
    unittest.main()
