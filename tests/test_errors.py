import inspect
import unittest

from doubtborne import errors
from doubtborne.errors import DoubtError

ATTRIBUTES = {
    "BadPlan": ("line", "column"),
    "BadRule": ("number",),
    "BadSensor": ("number",),
    "BadPush": ("which", "number"),
    "BadMover": ("number",),
    "BadFault": ("number",),
    "BadNumber": ("name",),
    "BadTask": ("at",),
    "BadStart": ("number",),
    "BadCell": ("cell",),
    "TooLarge": ("part",),
    "TooMany": ("limit",),
    "NoWorld": (),
    "NoCase": (),
    "Misfit": ("at",),
    "NotAlike": (),
    "NotBorne": (),
    "IsBorne": (),
    "NotSafe": (),
    "IsSafe": (),
    "IsNoticed": (),
    "IsKnown": (),
    "NotLost": (),
    "Ended": (),
}
VALUES = (5, 7)


def made(name):
    """An error of this class, with the first of the values as its attributes."""
    return getattr(errors, name)(*VALUES[:len(ATTRIBUTES[name])])


class TestErrors(unittest.TestCase):

    def test_the_base_stands_directly_under_value_error(self):
        self.assertEqual(DoubtError.__bases__, (ValueError,))

    def test_no_class_is_missing_and_none_is_more(self):
        found = {name for name, value in vars(errors).items() if inspect.isclass(value)}
        self.assertEqual(found, set(ATTRIBUTES) | {"DoubtError"})

    def test_each_class_stands_directly_under_the_base(self):
        for name in ATTRIBUTES:
            self.assertEqual(getattr(errors, name).__bases__, (DoubtError,), name)

    def test_attributes_are_set_by_place(self):
        for name, attributes in ATTRIBUTES.items():
            error = made(name)
            for attribute, value in zip(attributes, VALUES):
                self.assertEqual(vars(error)[attribute], value, name)

    def test_attributes_are_the_names_of_the_arguments(self):
        for name, attributes in ATTRIBUTES.items():
            error = getattr(errors, name)(**dict(zip(attributes, VALUES)))
            self.assertEqual(vars(error), dict(zip(attributes, VALUES)), name)

    def test_the_arguments_must_be_handed_in(self):
        for name, attributes in ATTRIBUTES.items():
            if attributes:
                with self.assertRaises(TypeError, msg=name):
                    getattr(errors, name)(*VALUES[:len(attributes) - 1])

    def test_each_is_caught_as_doubt_error_and_as_value_error(self):
        for name in ATTRIBUTES:
            for kind in (getattr(errors, name), DoubtError, ValueError):
                with self.assertRaises(kind):
                    raise made(name)

    def test_none_is_caught_as_another_one(self):
        for name in ATTRIBUTES:
            for other in ATTRIBUTES:
                if other != name:
                    self.assertNotIsInstance(made(name), getattr(errors, other))

    def test_attributes_keep_strings_as_they_are(self):
        self.assertEqual(errors.BadNumber("most").name, "most")
        self.assertEqual(errors.TooLarge("worlds").part, "worlds")


if __name__ == "__main__":
    unittest.main()
