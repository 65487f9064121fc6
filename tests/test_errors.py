"""Point [3]: the error classes."""

import unittest

from tests.values import ODD
from yearturned import errors
from yearturned.errors import (
    NoDeed, NoIndex, NoLine, NoNumber, NoStep, NothingToUndo, NotRight, NoText, TurnError,
)

FIELDS = {NoStep: "index", NoIndex: "index", NoDeed: "index", NoLine: "index", NoNumber: "number", NoText: "part"}
PLAIN = [NotRight, NothingToUndo]
ALL = [*FIELDS, *PLAIN]
VALUES = [0, 1, -1, 12, 10 ** 30, 10 ** 6000, -10 ** 6000, True, False, None, "", "a", "%s", (), (1, (2,)), [1], *ODD]


class Fields(unittest.TestCase):
    def test_by_position(self):
        for error, name in FIELDS.items():
            for value in VALUES:
                self.assertIs(getattr(error(value), name), value)

    def test_by_name(self):
        for error, name in FIELDS.items():
            for value in VALUES:
                self.assertIs(getattr(error(**{name: value}), name), value)

    def test_caught(self):
        for error, name in FIELDS.items():
            for value in VALUES:
                with self.assertRaises(error) as caught:
                    raise error(value)
                self.assertIs(getattr(caught.exception, name), value)

    def test_can_be_shown(self):
        for error in FIELDS:
            for value in VALUES:
                self.assertIsInstance(str(error(value)), str)

    def test_takes_just_its_field(self):
        for error in FIELDS:
            self.assertRaises(TypeError, error)
            self.assertRaises(TypeError, error, 1, 2)
            self.assertRaises(TypeError, error, other=1)

    def test_one_string(self):
        for error in [TurnError, *PLAIN]:
            self.assertEqual(str(error("so it is")), "so it is")
            self.assertEqual(error("so it is").args, ("so it is",))
            with self.assertRaises(error) as caught:
                raise error("")
            self.assertEqual(str(caught.exception), "")


class Classes(unittest.TestCase):
    def test_bases(self):
        self.assertEqual(TurnError.__bases__, (ValueError,))
        for error in ALL:
            self.assertEqual(error.__bases__, (TurnError,))

    def test_of_none_of_the_others(self):
        for error in ALL:
            made = error("x")
            self.assertIsInstance(made, TurnError)
            self.assertIsInstance(made, ValueError)
            for other in ALL:
                self.assertEqual(isinstance(made, other), other is error)
        for other in ALL:
            self.assertNotIsInstance(TurnError("x"), other)

    def test_defined_in_errors(self):
        for error in [TurnError, *ALL]:
            self.assertEqual(error.__module__, "yearturned.errors")
            self.assertIs(getattr(errors, error.__name__), error)


if __name__ == "__main__":
    unittest.main()
