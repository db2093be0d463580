"""Point [10] and the section "The interface": the errors, their families and their fields."""

import unittest

from firstfailing import errors
from tests.support import Case

FAMILIES = {
    "PaperError": {"InvalidPaper": ("word", "at")},
    "BookError": {"NotUsable": ("word", "at"), "NotFalling": ("rule",), "NotEnding": ("ring",)},
    "TrialError": {"InvalidEvent": ("event", "reason"), "NothingToUndo": ("steps",)},
    "TextError": {"InvalidText": ("line", "field"), "InvalidRow": ("row",)},
}
ERRORS = [(family, name, fields) for family, rows in FAMILIES.items() for name, fields in rows.items()]


class Errors(Case):
    def test_the_base_class_is_a_value_error(self):
        self.assertTrue(issubclass(errors.FailError, ValueError))

    def test_families_are_derived_directly_from_the_base_class(self):
        for family in FAMILIES:
            self.assertEqual(getattr(errors, family).__bases__, (errors.FailError,))

    def test_errors_are_derived_directly_from_their_families(self):
        for family, name, _ in ERRORS:
            self.assertEqual(getattr(errors, name).__bases__, (getattr(errors, family),))

    def test_all_are_defined_in_the_module(self):
        for name in ["FailError", *FAMILIES, *[row[1] for row in ERRORS]]:
            self.assertEqual(getattr(errors, name).__module__, "firstfailing.errors")
            self.assertEqual(getattr(errors, name).__name__, name)

    def test_fields_are_kept_as_the_very_objects(self):
        for _, name, fields in ERRORS:
            for value in (["a", [1]], (True, None), 10 ** 59, "word", None, True, [], errors.FailError("x")):
                others = [["other", k] for k in range(len(fields))]
                for k in range(len(fields)):
                    given = others[:k] + [value] + others[k + 1:]
                    error = getattr(errors, name)(*given)
                    for field, part in zip(fields, given):
                        self.assertIs(getattr(error, field), part)

    def test_fields_are_passed_by_name_too(self):
        for _, name, fields in ERRORS:
            given = {field: [field] for field in fields}
            error = getattr(errors, name)(**given)
            for field in fields:
                self.assertIs(getattr(error, field), given[field])

    def test_errors_take_exactly_their_fields(self):
        for _, name, fields in ERRORS:
            for many in (len(fields) - 1, len(fields) + 1):
                with self.assertRaises(TypeError):
                    getattr(errors, name)(*range(many))
            with self.assertRaises(TypeError):
                getattr(errors, name)(**{field: 0 for field in fields}, other=1)

    def test_what_is_handed_in_does_not_change(self):
        for _, name, fields in ERRORS:
            given = [[1, "a"] for _ in fields]
            getattr(errors, name)(*given)
            self.same(given, [[1, "a"] for _ in fields])

    def test_errors_are_raised_and_caught_by_their_families(self):
        for family, name, fields in ERRORS:
            for caught in (name, family, "FailError"):
                with self.assertRaises(getattr(errors, caught)):
                    raise getattr(errors, name)(*fields)


if __name__ == "__main__":
    unittest.main()
