"""The classes of errors: [5] of the conventions, and flashtrees/errors.py of the interface."""

import inspect
import unittest

from flashtrees import errors
from tests.support import GREAT, NO_NUMBERS, NO_TUPLES

ATTRIBUTE = {
    "given": ("InvalidPage", "InvalidNumber", "InvalidKey", "InvalidValue", "InvalidTree", "InvalidDeed",
              "InvalidPath", "InvalidLine"),
    "word": ("Refused",),
    "index": ("InvalidNumbers", "InvalidImage", "InvalidLuck", "InvalidBlocks", "InvalidTable", "InvalidNotes"),
    None: ("PowerCut", "NotSound", "NotOrderly", "NoRoom", "WornOut"),
}
KEPT = NO_NUMBERS + NO_TUPLES + [-GREAT, "exists", 1 << 522]


class ErrorsTest(unittest.TestCase):
    def test_all_classes_are_there_and_no_others(self):
        told = [name for names in ATTRIBUTE.values() for name in names] + ["FlashError"]
        found = [name for name, value in vars(errors).items() if inspect.isclass(value)]
        self.assertEqual(sorted(found), sorted(told))

    def test_each_stands_under_the_base_alone(self):
        self.assertEqual(errors.FlashError.__bases__, (ValueError,))
        for names in ATTRIBUTE.values():
            for name in names:
                kind = getattr(errors, name)
                self.assertEqual(kind.__mro__[1:], errors.FlashError.__mro__, name)
                self.assertEqual(kind.__bases__, (errors.FlashError,), name)
                self.assertFalse(issubclass(kind, (LookupError, TypeError, OSError, ArithmeticError)), name)

    def test_attributes_are_kept_by_position_and_by_name(self):
        for attribute in ("given", "word", "index"):
            for name in ATTRIBUTE[attribute]:
                for value in KEPT:
                    for error in (getattr(errors, name)(value), getattr(errors, name)(**{attribute: value})):
                        self.assertEqual(list(vars(error)), [attribute])
                        self.assertIs(getattr(error, attribute), value)

    def test_an_attribute_has_to_be_told(self):
        for attribute in ("given", "word", "index"):
            for name in ATTRIBUTE[attribute]:
                with self.assertRaises(TypeError):
                    getattr(errors, name)()
                with self.assertRaises(TypeError):
                    getattr(errors, name)(1, 2)

    def test_those_without_attributes_have_none(self):
        for name in ATTRIBUTE[None] + ("FlashError",):
            self.assertEqual(vars(getattr(errors, name)()), {})

    def test_they_are_raised_and_caught_by_their_names_and_their_base(self):
        for attribute, names in ATTRIBUTE.items():
            for name in names:
                kind = getattr(errors, name)
                for caught in (kind, errors.FlashError, ValueError):
                    with self.assertRaises(caught):
                        raise kind(*(() if attribute is None else (7,)))


if __name__ == "__main__":
    unittest.main()
