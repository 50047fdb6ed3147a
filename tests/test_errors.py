"""The errors of sections 2 and 19."""

import unittest

from looseknobs import errors
from looseknobs.ratios import Ratio
from looseknobs.words import Word

NAMES = (
    "BadRatio", "BadText", "BadWord", "OtherSize", "Crossing", "Passing", "BadTerms",
    "BadSetting", "Loose", "BadName", "BadCircuit", "NoLine", "Long", "Many", "BadPlace",
    "BadLine", "BadShift", "NoKnob", "BadNumber", "BadRows", "BadStart", "BadImages",
    "BadSuspects", "BadLooks", "Settled", "BadOffers", "BadWishes", "Unlike", "BadAngle",
    "NothingToUndo", "NothingToRedo", "NoTrial", "BadJournal", "BadSay",
)


def nested(depth):
    value = "core"
    for level in range(depth):
        value = [value] if level % 3 == 0 else (value,) if level % 3 == 1 else {"in": value}
    return value


def many_values():
    return (
        0, 1, -7, 10 ** 400, True, False, None, "", "text", "two\nlines", (), (1,), (1, (2, None)),
        [], [1, [2]], {}, {"a": [1]}, nested(30), Ratio(1, 2), Word("-XY"), errors.KnobError(3),
    )


class ErrorsTest(unittest.TestCase):
    def test_names_and_bases(self):
        self.assertEqual(errors.KnobError.__bases__, (ValueError,))
        for name in NAMES:
            with self.subTest(name=name):
                kind = getattr(errors, name)
                self.assertEqual(kind.__bases__, (errors.KnobError,))
                self.assertEqual(kind.__name__, name)
                self.assertEqual(kind.__module__, "looseknobs.errors")

    def test_no_other_errors(self):
        found = sorted(name for name in vars(errors) if not name.startswith("_"))
        self.assertEqual(found, sorted(NAMES + ("KnobError",)))

    def test_value_is_the_very_one(self):
        for name in NAMES + ("KnobError",):
            kind = getattr(errors, name)
            for value in many_values():
                with self.subTest(name=name, value=value):
                    self.assertIs(kind(value).value, value)

    def test_raised_and_caught_by_each_base(self):
        told = [1]
        for name in NAMES:
            kind = getattr(errors, name)
            for base in (kind, errors.KnobError, ValueError):
                with self.subTest(name=name, base=base.__name__):
                    with self.assertRaises(base) as caught:
                        raise kind(told)
                    self.assertIs(caught.exception.value, told)

    def test_no_error_is_another_one(self):
        for name in NAMES:
            for other in NAMES:
                if name != other:
                    self.assertNotIsInstance(getattr(errors, name)(0), getattr(errors, other))

    def test_value_is_not_changed(self):
        told = {"a": [1, 2]}
        errors.BadLooks(told)
        self.assertEqual(told, {"a": [1, 2]})


if __name__ == "__main__":
    unittest.main()
