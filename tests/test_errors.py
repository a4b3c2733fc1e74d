"""The section "Errors" of the interface."""

import unittest

from heldranks import errors

VALUE = ["value"]
OF_HELD = {
    "InvalidValue": VALUE, "InvalidInteger": VALUE, "InvalidCount": VALUE, "InvalidName": VALUE,
    "InvalidPlace": VALUE, "InvalidEnd": VALUE, "InvalidTerm": VALUE, "InvalidTerms": VALUE, "InvalidForm": VALUE,
    "InvalidValues": VALUE, "InvalidRows": VALUE, "WrongRow": VALUE, "InvalidMachine": VALUE,
    "InvalidHistory": ["position"], "InvalidEnds": VALUE, "InvalidEndState": VALUE, "InvalidChart": VALUE,
    "InvalidClass": VALUE, "InvalidSteps": VALUE, "InvalidTable": VALUE, "InvalidPrices": VALUE,
    "InvalidNest": ["position"], "InvalidText": ["line"], "InvalidClaim": VALUE, "InvalidCommand": VALUE,
    "OtherShape": [], "NotRising": [], "TooMany": ["kind", "limit"]}
OF_MISSING = {"UnknownMode": VALUE, "UnknownLetter": VALUE, "UnknownName": VALUE}
OF_STATE = {"NothingToUndo": [], "NameTaken": VALUE}
FAMILIES = [("HeldError", OF_HELD), ("MissingError", OF_MISSING), ("StateError", OF_STATE)]


class Errors(unittest.TestCase):

    def test_families(self):
        self.assertEqual(errors.HeldError.__bases__, (ValueError,))
        self.assertEqual(errors.MissingError.__bases__, (LookupError,))
        self.assertEqual(errors.StateError.__bases__, (RuntimeError,))

    def test_each_class_has_just_its_base(self):
        for base, names in FAMILIES:
            for name in names:
                with self.subTest(name):
                    self.assertEqual(getattr(errors, name).__bases__, (getattr(errors, base),))

    def test_by_position_and_by_name(self):
        for _, names in FAMILIES:
            for name, attributes in names.items():
                with self.subTest(name):
                    given = [[name, k] for k in range(len(attributes))]
                    for error in (getattr(errors, name)(*given),
                                  getattr(errors, name)(**dict(zip(attributes, given)))):
                        self.assertEqual(sorted(vars(error)), sorted(attributes))
                        for k, attribute in enumerate(attributes):
                            self.assertIs(getattr(error, attribute), given[k])

    def test_nothing_else_is_an_error(self):
        listed = [name for base, names in FAMILIES for name in [base] + list(names)]
        found = [name for name in vars(errors) if isinstance(getattr(errors, name), type)]
        self.assertEqual(sorted(found), sorted(listed))


if __name__ == "__main__":
    unittest.main()
