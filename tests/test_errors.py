"""Promise [4]: the errors."""

import unittest

from levelties import errors
from tests.helpers import PAIR

DIRECT = {
    "InvalidNet": ["word"],
    "InvalidText": ["at"],
    "InvalidReadings": ["at"],
    "InvalidGroups": ["at"],
    "InvalidCommand": [],
    "Refused": ["at"],
}
INDEX = {"NoTie": ["at"], "NoPost": ["at"]}


class ErrorsTest(unittest.TestCase):

    def test_base_class(self):
        self.assertEqual(errors.LevelError.__bases__, (ValueError,))

    def test_bases(self):
        for name in DIRECT:
            self.assertEqual(getattr(errors, name).__bases__, (errors.LevelError,), name)
        for name in INDEX:
            self.assertEqual(getattr(errors, name).__bases__, (IndexError,), name)

    def test_arguments_are_kept_themselves(self):
        things = [3, None, "joined", [1, [2]], {"a": 1}, object(), PAIR, (1, [2]), ValueError("x")]
        for name, words in (DIRECT | INDEX).items():
            for word in words:
                for thing in things:
                    kind = getattr(errors, name)
                    self.assertIs(getattr(kind(thing), word), thing)
                    self.assertIs(getattr(kind(**{word: thing}), word), thing)

    def test_kept_thing_may_change(self):
        thing = [1]
        error = errors.NoTie(thing)
        thing.append(2)
        self.assertEqual(error.at, [1, 2])

    def test_each_can_be_raised_and_caught_by_its_base(self):
        for name, words in DIRECT.items():
            with self.assertRaises(errors.LevelError) as caught:
                raise getattr(errors, name)(*[7 for _ in words])
            self.assertEqual(type(caught.exception).__name__, name)
        for name in INDEX:
            with self.assertRaises(IndexError):
                raise getattr(errors, name)(7)

    def test_errors_are_not_iterable(self):
        for error in (errors.LevelError(), errors.InvalidNet("ties"), errors.NoTie(0), errors.InvalidCommand()):
            with self.assertRaises(TypeError):
                iter(error)


if __name__ == "__main__":
    unittest.main()
