"""Errors: their bases, and what they keep."""

import inspect
import unittest

from fetchwalks import errors

BASES = {
    "FetchError": (
        ValueError,
        {
            "InvalidKinds": ["position"], "InvalidFields": ["name"], "InvalidFlags": ["name"],
            "InvalidSchema": ["value"], "InvalidId": ["value"], "InvalidRow": ["name"], "InvalidRows": ["position"],
            "InvalidStore": ["value"], "InvalidWalk": ["problem", "place"], "NoWalk": ["value"],
            "InvalidRoots": ["find"], "InvalidWord": ["value"], "InvalidPlan": ["value"],
            "InvalidLinks": ["position"], "InvalidRoute": ["value"], "InvalidPlace": ["value"],
            "InvalidPlaces": ["value"], "InvalidSizeName": ["value"], "InvalidSize": ["value"],
            "InvalidSizes": ["value"], "InvalidNumber": ["value"], "InvalidSum": ["value"],
            "InvalidChange": ["position"], "InvalidValue": ["value"], "InvalidText": ["line"],
            "InvalidClaim": ["value"], "InvalidCommand": ["value"],
        },
    ),
    "MissingError": (
        LookupError,
        {
            "UnknownKind": ["value"], "UnknownLink": ["value"], "UnknownObject": ["kind", "number"],
            "UnknownTarget": ["field", "number"], "UnknownSpot": ["value"], "UnknownPath": ["value"],
            "UnknownFind": ["value"], "UnknownName": ["value"],
        },
    ),
    "StateError": (
        RuntimeError,
        {
            "TargetTaken": ["field", "number", "by"], "RowRefused": ["kind", "number"], "LinkRing": ["ring"],
            "WordRefused": ["link", "word"], "OtherSchema": [], "OtherFinds": ["one", "other"],
            "NameTaken": ["name"], "NotKept": ["kind", "number"], "ChangesRefused": ["position"],
            "SaveRefused": ["first", "second"], "NothingToUndo": [], "CommandFailed": ["position"],
        },
    ),
    "LimitError": (ArithmeticError, {"TooMany": ["what", "limit"]}),
}

VALUES = [None, True, 1, -5, "", "name", b"", [], [1, [2]], {}, {"a": []}, (), (0, (1,)), object(), ValueError("x")]


def leaves():
    for base, (_, classes) in BASES.items():
        for name, parameters in classes.items():
            yield getattr(errors, base), getattr(errors, name), parameters


class Errors(unittest.TestCase):
    def test_the_four_bases_are_direct_subclasses_of_pythons_errors(self):
        for name, (python, _) in BASES.items():
            self.assertEqual(getattr(errors, name).__bases__, (python,))

    def test_each_class_has_its_base_alone(self):
        for base, error, _ in leaves():
            self.assertEqual(error.__bases__, (base,))

    def test_there_are_no_other_classes(self):
        found = {name for name, value in vars(errors).items() if inspect.isclass(value)}
        wanted = set(BASES) | {error.__name__ for _, error, _ in leaves()}
        self.assertEqual(found, wanted)

    def test_parameters_have_these_names_in_this_sequence(self):
        for _, error, parameters in leaves():
            self.assertEqual(list(inspect.signature(error).parameters), parameters)

    def test_attributes_by_position_and_by_name(self):
        for _, error, parameters in leaves():
            for start in range(len(VALUES)):
                values = [VALUES[(start + step) % len(VALUES)] for step in range(len(parameters))]
                for made in (error(*values), error(**dict(zip(parameters, values)))):
                    for name, value in zip(parameters, values):
                        self.assertIs(getattr(made, name), value)

    def test_too_few_and_too_many_arguments(self):
        for _, error, parameters in leaves():
            with self.assertRaises(TypeError):
                error(*([1] * (len(parameters) + 1)))
            if parameters:
                with self.assertRaises(TypeError):
                    error(*([1] * (len(parameters) - 1)))

    def test_they_can_be_raised_and_caught_by_their_bases(self):
        for base, error, parameters in leaves():
            for caught in (error, base, base.__bases__[0]):
                with self.assertRaises(caught):
                    raise error(*([1] * len(parameters)))


if __name__ == "__main__":
    unittest.main()
