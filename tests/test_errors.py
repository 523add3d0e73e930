"""[11] and [4]: the errors."""

import unittest

from everyversion import errors
from everyversion.errors import IsHome, NoCommand, NoPiece, NoText, NotEnd, NotMoved, NotNeighbour, NotTaken, Refused
from everyversion.errors import VersionError, Wrong
from samples import ANYTHING

ONE_FIELD = [
    (IsHome, "version"), (NoPiece, "piece"), (NoText, "line"), (NotEnd, "version"), (NotMoved, "piece"),
    (NotNeighbour, "version"), (Wrong, "place"),
]
TWO_FIELDS = [(NotTaken, ("word", "things")), (Refused, ("index", "reason"))]
ALL = [error for error, _ in ONE_FIELD + TWO_FIELDS] + [NoCommand]


class Errors(unittest.TestCase):

    def test_all_are_subclasses_of_version_error_and_of_no_other(self):
        self.assertEqual(VersionError.__bases__, (ValueError,))
        for error in ALL:
            self.assertEqual(error.__bases__, (VersionError,))

    def test_all_are_defined_in_errors(self):
        for error in ALL + [VersionError]:
            self.assertEqual(error.__module__, "everyversion.errors")
            self.assertIs(getattr(errors, error.__name__), error)

    def test_one_field_is_the_object_itself(self):
        for error, field in ONE_FIELD:
            for value in ANYTHING + [object()]:
                made = error(value)
                self.assertIs(getattr(made, field), value)
                self.assertEqual(list(vars(made)), [field])

    def test_two_fields_are_the_objects_themselves(self):
        for error, fields in TWO_FIELDS:
            for one in ANYTHING:
                for other in [None, [1], {}, object()]:
                    made = error(one, other)
                    self.assertIs(getattr(made, fields[0]), one)
                    self.assertIs(getattr(made, fields[1]), other)

    def test_a_field_is_no_copy(self):
        rows = [1]
        made = NotTaken("word", rows)
        rows.append(2)
        self.assertEqual(made.things, [1, 2])

    def test_no_command_has_no_argument(self):
        self.assertEqual(vars(NoCommand()), {})
        self.assertRaises(TypeError, NoCommand, 1)

    def test_as_many_arguments_as_told(self):
        for error, _ in ONE_FIELD:
            self.assertRaises(TypeError, error)
            self.assertRaises(TypeError, error, 1, 2)
        for error, _ in TWO_FIELDS:
            self.assertRaises(TypeError, error, 1)
            self.assertRaises(TypeError, error, 1, 2, 3)

    def test_each_is_caught_as_the_others_bases(self):
        for error, field in ONE_FIELD:
            with self.assertRaises(ValueError):
                raise error(3)
            try:
                raise error([4])
            except VersionError as caught:
                self.assertEqual(getattr(caught, field), [4])


if __name__ == "__main__":
    unittest.main()
