"""All error classes, with their bases and attributes (promises 2 and 17)."""

import inspect
import unittest

from onehostmore import errors
from things import nested

LOOKUP = {"NoKind": ("kind",), "NoKeeper": ("given",), "NoNumber": ("number",), "NoJob": ("job",),
          "NoBook": ("name",), "NoFrame": ("name",)}
VALUE = {"Twice": ("kind",), "Known": ("kind",), "OtherKinds": ("kind",), "BadText": (), "NoTree": ("four",),
         "TooMany": ("most",), "NotLed": (), "Selfish": ("kind",), "NoRoom": ("many",), "Outside": ("name",),
         "BadLine": ("number",), "Stopped": ("number", "raised", "value")}
ALL = {**LOOKUP, **VALUE}


class Errors(unittest.TestCase):

    def test_bases(self):
        for name in ALL:
            base = LookupError if name in LOOKUP else ValueError
            self.assertEqual(getattr(errors, name).__bases__, (base,), name)

    def test_no_others(self):
        found = [name for name, worth in vars(errors).items() if inspect.isclass(worth)]
        self.assertEqual(sorted(found), sorted(ALL))
        for name in ALL:
            self.assertEqual(getattr(errors, name).__module__, "onehostmore.errors")

    def test_attributes_by_position_and_by_name(self):
        for name, attributes in ALL.items():
            made = getattr(errors, name)
            values = [f"value{at}" for at in range(len(attributes))]
            kept = dict(zip(attributes, values))
            self.assertEqual(vars(made(*values)), kept, name)
            self.assertEqual(vars(made(**kept)), kept, name)

    def test_too_few_values(self):
        for name, attributes in ALL.items():
            if attributes:
                with self.assertRaises(TypeError):
                    getattr(errors, name)()

    def test_other_values_stay_as_they_are(self):
        for value in (0, 10 ** 40, None, True, "a", "", ("a", "b", "c", "d")):
            for name, attributes in ALL.items():
                error = getattr(errors, name)(*[value for _ in attributes])
                self.assertEqual([repr(getattr(error, attribute)) for attribute in attributes],
                                 [repr(value) for _ in attributes])

    def test_tuples_for_lists(self):
        for name, attributes in ALL.items():
            given = [["a", ("b", ["c", []])], nested("x", 12, list), []][:len(attributes)]
            error = getattr(errors, name)(*given)
            told = [("a", ("b", ("c", ()))), nested("x", 12), ()][:len(attributes)]
            self.assertEqual([getattr(error, attribute) for attribute in attributes], told)
            for part in given:
                part.append("later")
            self.assertEqual([getattr(error, attribute) for attribute in attributes], told)

    def test_raised_and_caught(self):
        for name, attributes in ALL.items():
            made = getattr(errors, name)
            with self.assertRaises(LookupError if name in LOOKUP else ValueError) as caught:
                raise made(*["a" for _ in attributes])
            self.assertIs(type(caught.exception), made)
            self.assertNotIsInstance(caught.exception, (KeyError, IndexError))


if __name__ == "__main__":
    unittest.main()
