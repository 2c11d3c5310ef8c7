"""The examples of the document, as they stand there (tests/examples), section by section."""

import ast
import pathlib
import unittest

from onehostmore import books, errors, patterns, plain

FOLDER = pathlib.Path(__file__).resolve().parent / "examples"
NAMES = {}
for module in (errors, plain, books, patterns):
    NAMES.update({name: worth for name, worth in vars(module).items() if not name.startswith("_")})


def examples(text):
    """The pairs of a statement and the line that is written below it, "" for none."""
    found = []
    for line in text.splitlines():
        if line.startswith(">>> "):
            found.append([line[4:], ""])
        else:
            assert found and not found[-1][1], line
            found[-1][1] = line
    return found


class Examples(unittest.TestCase):

    def check_error(self, statement, told, names):
        call = ast.parse(told, mode="eval").body
        with self.assertRaises(Exception) as caught:
            exec(statement, names)
        self.assertIs(type(caught.exception), NAMES[call.func.id])
        kept = {part.arg: ast.literal_eval(part.value) for part in call.keywords}
        self.assertEqual(vars(caught.exception), kept)

    def check(self, statement, told, names):
        if told.startswith("raises "):
            self.check_error(statement, told[len("raises "):], names)
        elif told:
            self.assertEqual(repr(eval(statement, names)), told)
        else:
            exec(statement, names)

    def test_examples(self):
        files = sorted(FOLDER.glob("section_*.txt"))
        self.assertTrue(files)
        for path in files:
            names = dict(NAMES)
            for statement, told in examples(path.read_text(encoding="ascii")):
                with self.subTest(file=path.name, statement=statement):
                    self.check(statement, told, names)

    def test_all_of_section_3_is_here(self):
        found = examples((FOLDER / "section_03.txt").read_text(encoding="ascii"))
        self.assertEqual(len(found), 16)
        self.assertEqual([told for _, told in found if told.startswith("raises")], [
            "raises Twice(kind='a')", "raises NoKind(kind='c')", "raises BadText()", "raises OtherKinds(kind='c')",
            "raises Known(kind='a')"])


if __name__ == "__main__":
    unittest.main()
