"""The error classes of the interface."""

import inspect
import unittest

from anchorpages import errors

FIELDS = {
    "Refused": "place", "NoGraph": "index", "NoRows": "index", "NoAlias": "place", "LikeKeys": "place", "NoNode": "number", "NoDepth": "depth",
    "TooLarge": "limit", "NoSchema": "schema", "BadTag": "place", "NoStyle": "part", "NoEvents": "index", "NoForm": "form", "NoChange": "index",
    "Spoilt": "k", "NoAnchor": "k", "NoName": "name", "Captured": "place", "NoScalar": "k", "NoEntry": "k", "Needed": "place",
    "NoCollection": "k", "NoPlace": "number", "NoLog": "row", "NoLine": "line", "NoValue": "thing",
}


class Errors(unittest.TestCase):
    def test_all_are_there(self):
        told = {name for name, thing in vars(errors).items() if inspect.isclass(thing)}
        self.assertEqual(told, set(FIELDS) | {"PageError", "NoFit"})
        self.assertEqual(errors.PageError.__bases__, (ValueError,))
        for name in set(FIELDS) | {"NoFit"}:
            self.assertEqual(getattr(errors, name).__bases__, (errors.PageError,))

    def test_fields(self):
        things = [0, -1, 7, "a", "", None, True, [1, [2]], {"a": 1}, (), object(), errors.NoFit()]
        for name, field in FIELDS.items():
            kind = getattr(errors, name)
            self.assertEqual(list(inspect.signature(kind).parameters), [field])
            self.assertIsNone(getattr(kind(), field))
            for thing in things:
                with self.subTest(name=name, thing=thing):
                    self.assertIs(getattr(kind(thing), field), thing)
                    error = kind(**{field: thing})
                    self.assertIs(getattr(error, field), thing)
                    self.assertIsInstance(str(error), str)
                    with self.assertRaises(kind) as caught:
                        raise error
                    self.assertIs(getattr(caught.exception, field), thing)

    def test_without_fields(self):
        for kind in (errors.NoFit, errors.PageError):
            self.assertEqual(str(kind("why")), "why")
            with self.assertRaises(ValueError):
                raise kind()


if __name__ == "__main__":
    unittest.main()
