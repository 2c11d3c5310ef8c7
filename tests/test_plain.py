"""KINDs, tuples for lists, and the ones of bits (promises 2, 4 and 17)."""

import unittest

from onehostmore.plain import frozen, is_kind, ones
from things import STRANGE, nested


class Kinds(unittest.TestCase):

    def test_letters(self):
        for letter in "abcdefghijklmnopqrstuvwxyz":
            self.assertIs(is_kind(letter), True)
        for thing in ("ab", "zz", "port", "abcdefgh", "abcdefghi", "none", "a" * 4000):
            self.assertIs(is_kind(thing), True)

    def test_each_other_sign(self):
        for number in range(0x3000):
            sign = chr(number)
            if not "a" <= sign <= "z":
                for thing in (sign, "a" + sign, sign + "a", "a" + sign + "a"):
                    self.assertIs(is_kind(thing), False)

    def test_strange_things(self):
        for thing in STRANGE:
            with self.subTest(thing=thing):
                self.assertIs(is_kind(thing), False)
        for depth in range(1, 13):
            self.assertIs(is_kind(nested("a", depth)), False)
            self.assertIs(is_kind(nested("a", depth, list)), False)

    def test_by_name(self):
        self.assertIs(is_kind(thing="a"), True)
        self.assertIs(is_kind(thing=("a",)), False)


class Helpers(unittest.TestCase):

    def test_frozen(self):
        for value, told in (([], ()), ([1, [2, ("a", [None])]], (1, (2, ("a", (None,))))), ("ab", "ab"), (5, 5),
                            ((), ()), (True, True), (nested(1, 12, list), nested(1, 12))):
            self.assertEqual(repr(frozen(value)), repr(told))

    def test_ones(self):
        self.assertEqual(ones(0), [])
        self.assertEqual(ones(0b1011001), [0, 3, 4, 6])
        self.assertEqual(ones(2 ** 40 - 1), list(range(40)))


if __name__ == "__main__":
    unittest.main()
