"""[2] and the start of "The interface": the errors, their families and fields."""

import inspect
import unittest

import helper
from leastplans import errors

FAMILIES = {
    "TextError": ("BadText", "TooMuch"),
    "QuestionError": ("NoName", "TwiceNamed", "BadKind", "BadPlace"),
    "HouseError": ("BadRow", "BadFact", "FactBroken", "InUse"),
    "StepError": ("BadPlan", "BadPlanText", "BadPage"),
}
FIELDS = {
    "BadText": ["at"], "TooMuch": ["what"], "NoName": ["name"], "TwiceNamed": ["name"],
    "BadKind": ["place"], "BadPlace": ["what"], "BadRow": ["why"], "BadFact": ["why"],
    "FactBroken": ["table", "fact"], "InUse": ["name"], "BadPlan": ["path", "why"],
    "BadPlanText": ["line"], "BadPage": ["size"],
}


class ErrorsTest(helper.Case):

    def test_families(self):
        self.assertEqual(errors.PlanError.__bases__, (ValueError,))
        for family, names in FAMILIES.items():
            self.assertEqual(getattr(errors, family).__bases__, (errors.PlanError,))
            for name in names:
                self.assertEqual(getattr(errors, name).__bases__, (getattr(errors, family),))

    def test_these_and_no_others(self):
        told = {"PlanError", *FAMILIES, *FIELDS}
        self.assertEqual({name for name in vars(errors) if not name.startswith("_")}, told)

    def test_fields(self):
        for name, fields in FIELDS.items():
            kind = getattr(errors, name)
            self.assertEqual(list(inspect.signature(kind).parameters), fields)
            for value in helper.ODD_VALUES + ([1, [2]], {"k": 1}, "a\nb", -10 ** 60):
                values = [value for _ in fields]
                for error in (kind(*values), kind(**dict(zip(fields, values)))):
                    self.assertEqual(list(vars(error)), fields)
                    for field in fields:
                        self.assertIs(getattr(error, field), value)
                    self.assertIsInstance(str(error), str)

    def test_two_fields_are_not_mixed_up(self):
        self.assertEqual(vars(errors.FactBroken("t", ("rows", 1))), {"table": "t", "fact": ("rows", 1)})
        self.assertEqual(vars(errors.BadPlan(why="kind", path=(0,))), {"path": (0,), "why": "kind"})

    def test_just_these_fields(self):
        for name, fields in FIELDS.items():
            kind = getattr(errors, name)
            self.assertRaises(TypeError, kind)
            self.assertRaises(TypeError, kind, *range(len(fields) + 1))


if __name__ == "__main__":
    unittest.main()
