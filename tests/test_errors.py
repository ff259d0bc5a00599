"""Stage 1: the errors."""
import unittest

from seenanddone import errors

BY_MESSAGE = ("InvalidName", "InvalidFraction", "InvalidLot", "InvalidDiagram", "InvalidTable", "InvalidWorld",
              "InvalidDeed", "InvalidWeb", "InvalidQuestion", "InvalidStudy", "InvalidOperation")
BY_VALUE = {
    "ParseError": (errors.StudyError, "spot"),
    "InvalidNumber": (IndexError, "given"),
    "UnknownName": (KeyError, "asked"),
    "NothingToUndo": (LookupError, "many"),
    "TooMany": (OverflowError, "limit"),
    "Refused": (ArithmeticError, "reason"),
}


class ErrorsTest(unittest.TestCase):
    def test_bases(self):
        self.assertEqual(errors.StudyError.__bases__, (ValueError,))
        for name in BY_MESSAGE:
            self.assertEqual(getattr(errors, name).__bases__, (errors.StudyError,))
        for name, (base, _) in BY_VALUE.items():
            self.assertEqual(getattr(errors, name).__bases__, (base,))

    def test_attributes_keep_any_value(self):
        for name, (_, attribute) in BY_VALUE.items():
            for value in (None, 0, True, "word", ("fallen", "a", 1), [1], {"a": (1,)}, 10 ** 1099):
                error = getattr(errors, name)(value)
                self.assertIs(getattr(error, attribute), value)
                with self.assertRaises(getattr(errors, name)) as caught:
                    raise error
                self.assertIs(getattr(caught.exception, attribute), value)

    def test_others_take_a_message_or_any_value(self):
        for name in BY_MESSAGE + ("StudyError",):
            for value in ("a message", 5, ("a", 1), None):
                self.assertEqual(getattr(errors, name)(value).args, (value,))

    def test_all_are_defined_there(self):
        for name in BY_MESSAGE + tuple(BY_VALUE) + ("StudyError",):
            self.assertEqual(getattr(errors, name).__module__, "seenanddone.errors")


if __name__ == "__main__":
    unittest.main()
