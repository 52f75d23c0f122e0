import unittest

from samples import ODD_VALUES, raised
from whoheld import errors

BASES = {"HoldError": ValueError, "TurnError": RuntimeError, "AbsentError": LookupError, "SizeError": OverflowError}
BUILTINS = (ValueError, RuntimeError, LookupError, OverflowError)
CLASSES = {
    "HoldError": {
        "InvalidKey": ("value",), "InvalidValue": ("value",), "InvalidView": ("value",), "InvalidLoss": ("value",),
        "InvalidPages": ("value",), "InvalidRow": ("index",), "InvalidText": ("line", "word"), "Barred": ("bar",),
        "Unplayed": ("index",), "TooFew": ("least",), "UnknownCommand": (), "NameTaken": ("name",),
    },
    "TurnError": {
        "Ended": (), "Cancelled": (), "NotOuter": (), "Strayed": ("index",), "Busy": ("number",),
        "Blocked": ("number",), "Taken": ("key",), "Unsettled": ("number",),
    },
    "AbsentError": {
        "NoKey": ("key",), "NoName": ("name",), "NoPage": ("page",), "NoRow": ("index",), "NoSlot": ("slot",),
        "NotDead": ("slot",), "NotPrepared": ("number",), "NotSpan": ("row",), "NotCleaning": ("row",),
        "NoNumber": ("number",), "NoTransaction": ("number",),
    },
    "SizeError": {"Full": (), "TooDeep": ("limit",), "TooLong": ("limit",)},
}
ALL = [(base, name, CLASSES[base][name]) for base in CLASSES for name in CLASSES[base]]


def error_class(name):
    return getattr(errors, name)


class ErrorsTest(unittest.TestCase):
    def test_there_are_just_these_classes(self):
        found = {name for name in vars(errors) if isinstance(vars(errors)[name], type)}
        self.assertEqual(found, set(BASES) | {name for _, name, _ in ALL})

    def test_each_class_is_defined_in_the_file(self):
        for name in list(BASES) + [name for _, name, _ in ALL]:
            self.assertEqual(error_class(name).__module__, "whoheld.errors")

    def test_base_classes(self):
        for name, builtin in BASES.items():
            for other in BUILTINS:
                self.assertEqual(issubclass(error_class(name), other), other is builtin, (name, other))
            for other in BASES:
                self.assertEqual(issubclass(error_class(name), error_class(other)), other == name)

    def test_own_base_class_and_no_other(self):
        for base, name, _ in ALL:
            for other in BASES:
                self.assertEqual(issubclass(error_class(name), error_class(other)), other == base, (name, other))
            for other in BUILTINS:
                self.assertEqual(issubclass(error_class(name), other), other is BASES[base], (name, other))

    def test_none_is_a_subclass_of_another(self):
        for _, name, _ in ALL:
            for _, other, _ in ALL:
                self.assertEqual(issubclass(error_class(name), error_class(other)), name == other)

    def test_arguments_by_position(self):
        for _, name, attributes in ALL:
            for at, value in enumerate(ODD_VALUES):
                given = [value, ODD_VALUES[at - 1]][:len(attributes)]
                error = error_class(name)(*given)
                for attribute, part in zip(attributes, given):
                    self.assertIs(getattr(error, attribute), part)

    def test_arguments_by_name(self):
        for _, name, attributes in ALL:
            for at, value in enumerate(ODD_VALUES):
                given = dict(zip(attributes, (value, ODD_VALUES[at - 1])))
                error = error_class(name)(**given)
                for attribute in attributes:
                    self.assertIs(getattr(error, attribute), given[attribute])

    def test_one_argument_for_each_attribute(self):
        for _, name, attributes in ALL:
            if attributes:
                raised(self, TypeError, error_class(name))
                raised(self, TypeError, error_class(name), *([0] * (len(attributes) + 1)))

    def test_they_can_be_raised_and_caught_by_their_base(self):
        for base, name, attributes in ALL:
            with self.assertRaises(error_class(base)):
                raise error_class(name)(*([0] * len(attributes)))

    def test_line_and_word_are_told_apart(self):
        for error in (errors.InvalidText(3, 4), errors.InvalidText(word=4, line=3)):
            self.assertEqual((error.line, error.word), (3, 4))
