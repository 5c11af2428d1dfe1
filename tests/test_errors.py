"""[2] and fivefault/errors.py: every error class with its fields, its code and its base classes."""

import unittest

from fivefault import errors

FIELDS = {
    "InvalidTerm": [], "InvalidLetter": ["letter"], "InvalidText": [], "InvalidName": ["name"],
    "InvalidRules": ["index"], "InvalidGoal": [], "TooManyTerms": ["count"], "InvalidSteps": [],
    "InvalidBoard": [], "InvalidPlace": ["place"], "InvalidReading": ["letter"], "TooManyPlaces": ["limit"],
    "InvalidCertificate": [], "NameInUse": ["name"], "CapacityReached": ["limit"], "InvalidLimit": ["limit"],
    "InvalidCommand": ["word"], "Stopped": ["index", "cause"], "InvalidDocument": ["line"],
    "UnknownRule": ["name"], "UnknownQuestion": ["name"], "NothingLeft": [],
}
LISTED = [*FIELDS, "FaultError", "Missing"]
VALUES = ["x", "", "a: {b}", 0, 12, -1, 10 ** 29, None, True, ("a", "b"), [1, "c"]]


def base_of(name):
    if name in ("UnknownRule", "UnknownQuestion"):
        return errors.Missing
    return IndexError if name == "NothingLeft" else errors.FaultError


class Errors(unittest.TestCase):
    def check(self, name, error, values):
        self.assertEqual(error.code, name)
        self.assertIs(type(error), getattr(errors, name))
        for field, value in zip(FIELDS[name], values):
            self.assertEqual(getattr(error, field), value)
            self.assertIs(type(getattr(error, field)), type(value))
        self.assertEqual(set(vars(error)), {"code", *FIELDS[name]})
        self.assertIsInstance(str(error), str)

    def test_fields_by_position_and_by_keyword(self):
        for name, fields in FIELDS.items():
            made = getattr(errors, name)
            for at in range(len(VALUES)):
                values = [VALUES[(at + k) % len(VALUES)] for k in range(len(fields))]
                with self.subTest(name=name, values=values):
                    self.check(name, made(*values), values)
                    self.check(name, made(**dict(zip(fields, values))), values)

    def test_stopped_takes_its_fields_in_either_way(self):
        self.check("Stopped", errors.Stopped(3, cause="InvalidTerm"), [3, "InvalidTerm"])
        self.check("Stopped", errors.Stopped(cause="NameInUse", index=0), [0, "NameInUse"])

    def test_wrong_numbers_of_fields(self):
        for name, fields in FIELDS.items():
            made = getattr(errors, name)
            with self.subTest(name=name):
                self.assertRaises(TypeError, made, *["x"] * (len(fields) + 1))
                self.assertRaises(TypeError, made, other="x")
                if fields:
                    self.assertRaises(TypeError, made, *["x"] * (len(fields) - 1))

    def test_direct_base_classes(self):
        self.assertEqual(errors.FaultError.__bases__, (ValueError,))
        self.assertEqual(errors.Missing.__bases__, (LookupError,))
        for name in FIELDS:
            with self.subTest(name=name):
                self.assertEqual(getattr(errors, name).__bases__, (base_of(name),))

    def test_caught_by_its_base_classes_and_no_other_listed_class(self):
        for name, fields in FIELDS.items():
            made = getattr(errors, name)
            for other in LISTED:
                caught = getattr(errors, other)
                expected = other == name or caught is base_of(name)
                with self.subTest(name=name, other=other):
                    self.assertEqual(issubclass(made, caught), expected)
                    self.assertEqual(self.is_caught(made(*["x"] * len(fields)), caught), expected)

    def test_caught_as_errors_of_python(self):
        for name, fields in FIELDS.items():
            error = getattr(errors, name)(*["x"] * len(fields))
            with self.subTest(name=name):
                self.assertEqual(self.is_caught(error, ValueError), base_of(name) is errors.FaultError)
                self.assertEqual(self.is_caught(error, LookupError), base_of(name) is not errors.FaultError)
                self.assertEqual(self.is_caught(error, IndexError), name == "NothingLeft")
                self.assertFalse(self.is_caught(error, KeyError))

    def is_caught(self, error, caught):
        try:
            raise error
        except caught:
            return True
        except Exception:
            return False

    def test_all_are_defined_in_their_file(self):
        for name in LISTED:
            self.assertEqual(getattr(errors, name).__module__, "fivefault.errors")
            self.assertEqual(getattr(errors, name).__name__, name)
        made = {name for name, value in vars(errors).items() if isinstance(value, type)}
        self.assertEqual(made, set(LISTED))


if __name__ == "__main__":
    unittest.main()
