"""The interface: the error classes."""

import unittest

import sumnets
from sumnets import errors

NAMES = (
    "NoJoining", "Bracketed", "NoThing", "NoRow", "NoWindow", "NoNet", "NotBeside", "NoPaper", "NoWidth", "NoSpare",
    "NoSize", "NoEnds", "NoDepth", "TooShallow", "TooMany", "NoPlace", "NoHands", "NoRounds", "NoText", "NoName",
    "NoThings",
)


class Errors(unittest.TestCase):
    def test_the_package(self):
        self.assertEqual(sumnets.__name__, "sumnets")

    def test_net_error_is_a_value_error(self):
        self.assertEqual(errors.NetError.__bases__, (ValueError,))

    def test_each_stands_directly_below_net_error(self):
        for name in NAMES:
            with self.subTest(name):
                self.assertEqual(getattr(errors, name).__bases__, (errors.NetError,))

    def test_none_is_another_one(self):
        kinds = [getattr(errors, name) for name in NAMES]
        self.assertEqual(len(set(kinds)), 21)
        for kind in kinds:
            self.assertEqual([other for other in kinds if issubclass(kind, other)], [kind])

    def test_each_plain_one_can_be_raised_and_caught(self):
        for name in NAMES:
            kind = getattr(errors, name)
            if name in ("Bracketed", "NotBeside"):
                continue
            with self.subTest(name), self.assertRaises(kind):
                raise kind("so")

    def test_bracketed_has_its_three_numbers(self):
        error = errors.Bracketed(3, 1, 2)
        self.assertEqual((error.one, error.two, error.three), (3, 1, 2))
        self.assertIsInstance(str(error), str)

    def test_bracketed_is_made_of_three(self):
        for wrong in ((), (1,), (1, 2), (1, 2, 3, 4)):
            with self.assertRaises(TypeError):
                errors.Bracketed(*wrong)

    def test_not_beside_has_its_knot(self):
        error = errors.NotBeside(77)
        self.assertEqual(error.knot, 77)
        self.assertIsInstance(str(error), str)

    def test_numbers_of_many_figures(self):
        big = 10 ** 1300 - 1
        self.assertEqual(errors.NotBeside(big).knot, big)
        self.assertEqual(errors.Bracketed(big, -big, 0).two, -big)


if __name__ == "__main__":
    unittest.main()
