import inspect
import unittest

from leastjoined import errors
from leastjoined.codes import Code
from leastjoined.ratios import Ratio
from values import any_values, deep

FIELDS = {
    "TooMany": ["what", "many", "most"],
    "BadCount": ["index"],
    "BadLength": ["index"],
    "NotFull": [],
    "BadWord": ["index"],
    "Begins": ["index", "other"],
    "OtherSize": ["many", "wanted"],
    "BadSize": ["size"],
    "NoBorder": [],
    "TooShort": ["most", "least"],
    "TooLong": ["sign"],
    "BadOver": [],
    "BadTie": ["tie"],
    "NotLeast": [],
    "BadSign": ["index"],
    "BadRule": ["name"],
    "Ring": ["name"],
    "NoRule": ["root"],
    "BadPlace": ["place"],
    "BadBits": ["index"],
    "BadNode": ["node"],
    "BadTable": ["node"],
    "BadLooks": ["looks"],
    "NoSigns": [],
}


class ErrorsTest(unittest.TestCase):
    def each(self):
        for name, wanted in FIELDS.items():
            with self.subTest(name):
                yield getattr(errors, name), wanted

    def test_there_are_just_these(self):
        found = [
            name for name, value in vars(errors).items()
            if inspect.isclass(value) and value.__module__ == "leastjoined.errors"
        ]
        self.assertEqual(sorted(found), sorted(["JoinsError", *FIELDS]))

    def test_bases(self):
        self.assertEqual(errors.JoinsError.__bases__, (ValueError,))
        for made, _ in self.each():
            self.assertEqual(made.__bases__, (errors.JoinsError,))

    def test_names_and_order_of_parameters(self):
        for made, wanted in self.each():
            self.assertEqual(list(inspect.signature(made).parameters), wanted)

    def test_by_position(self):
        for made, wanted in self.each():
            values = [f"value {at}" for at in range(len(wanted))]
            error = made(*values)
            self.assertEqual([getattr(error, field) for field in wanted], values)

    def test_by_name(self):
        for made, wanted in self.each():
            values = {field: f"value of {field}" for field in reversed(wanted)}
            error = made(**values)
            self.assertEqual({field: getattr(error, field) for field in wanted}, values)
            self.assertEqual(str(error), str(made(*[values[field] for field in wanted])))

    def test_no_more_and_no_fewer_fields(self):
        for made, wanted in self.each():
            with self.assertRaises(TypeError):
                made(*[1] * (len(wanted) + 1))
            if wanted:
                with self.assertRaises(TypeError):
                    made(*[1] * (len(wanted) - 1))

    def test_any_values(self):
        for made, wanted in self.each():
            for value in [*any_values(), deep(10)]:
                error = made(*[value] * len(wanted))
                for field in wanted:
                    self.assertEqual(getattr(error, field), value)
                    self.assertIs(getattr(error, field).__class__, value.__class__)
                self.assertIsInstance(str(error), str)

    def test_objects_stay_what_they_are(self):
        for value in (Ratio(1, 2), Code([1, 1]), errors.NotFull()):
            self.assertIs(errors.BadTie(value).tie, value)
            self.assertIs(errors.BadTie([value]).tie[0], value)

    def test_integers_that_are_too_long_to_show(self):
        great = 10 ** 9999
        for made, wanted in self.each():
            error = made(*[great] * len(wanted))
            self.assertIsInstance(str(error), str)
            for field in wanted:
                self.assertTrue(getattr(error, field) == great)

    def test_fields_are_copies(self):
        for made, wanted in self.each():
            for field in wanted:
                inner = [1]
                value = [inner, (inner,), {"a": inner}]
                error = made(**{other: value for other in wanted})
                inner.append(2)
                value.append(3)
                self.assertEqual(getattr(error, field), [[1], ([1],), {"a": [1]}])

    def test_they_are_caught_above(self):
        for made, wanted in self.each():
            with self.assertRaises(ValueError):
                raise made(*wanted)
            with self.assertRaises(errors.JoinsError):
                raise made(*wanted)


if __name__ == "__main__":
    unittest.main()
