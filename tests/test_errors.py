import unittest

from tosslanes import errors
from tosslanes.errors import LaneError

ATTRIBUTES = {
    "NoTowers": ["index"], "NoKey": ["key"], "NoKeys": ["index"], "NoNumber": ["value"], "NoRule": [],
    "NoCoins": ["index"], "Short": ["index"], "Spare": ["index"], "NoHeights": ["index"], "NoManner": [],
    "NoHistory": ["index"], "NoText": ["place"], "NoChance": [], "NoSort": [], "NoJoin": [], "NoItems": ["index"],
    "NoName": ["name"], "NoGaps": [], "NoTree": [], "NoWeights": ["index"], "NoMisses": ["index"],
    "NoPlan": ["place"], "NoSeen": ["index"], "NoSeeks": ["index"], "Never": [], "NoAct": [], "NoOrder": [],
    "NoTurns": ["index"], "NoLine": ["row"],
}


class ErrorTests(unittest.TestCase):
    def test_there_are_just_these_errors(self):
        there = [name for name, thing in vars(errors).items() if isinstance(thing, type) and name != "LaneError"]
        self.assertEqual(sorted(there), sorted(ATTRIBUTES))

    def test_the_base_is_a_value_error(self):
        self.assertEqual(LaneError.__bases__, (ValueError,))
        self.assertEqual(vars(LaneError()), {})

    def test_each_is_a_direct_subclass(self):
        for name in ATTRIBUTES:
            with self.subTest(name):
                self.assertEqual(getattr(errors, name).__bases__, (LaneError,))

    def test_none_is_under_another_one(self):
        for name in ATTRIBUTES:
            for other in ATTRIBUTES:
                if name != other:
                    self.assertFalse(issubclass(getattr(errors, name), getattr(errors, other)))

    def test_attributes_by_place(self):
        for name, attributes in ATTRIBUTES.items():
            for value in (0, -1, (2, 3), [1], "text", None, True):
                with self.subTest(name, value=value):
                    error = getattr(errors, name)(*[value for _ in attributes])
                    self.assertEqual(sorted(vars(error)), attributes)
                    for attribute in attributes:
                        self.assertIs(getattr(error, attribute), value)

    def test_attributes_by_name(self):
        for name, attributes in ATTRIBUTES.items():
            with self.subTest(name):
                error = getattr(errors, name)(**{attribute: 7 for attribute in attributes})
                self.assertEqual(vars(error), {attribute: 7 for attribute in attributes})

    def test_attributes_are_wanted(self):
        for name, attributes in ATTRIBUTES.items():
            if attributes:
                with self.subTest(name), self.assertRaises(TypeError):
                    getattr(errors, name)()

    def test_each_can_be_raised_and_caught(self):
        for name, attributes in ATTRIBUTES.items():
            with self.subTest(name), self.assertRaises(LaneError) as caught:
                raise getattr(errors, name)(*[3 for _ in attributes])
            self.assertIs(caught.exception.__class__, getattr(errors, name))


if __name__ == "__main__":
    unittest.main()
