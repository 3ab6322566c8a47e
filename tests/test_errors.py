"""The refusals: what each stands under, and its fields."""

import ast
import unittest
from pathlib import Path

from eventledger import errors

REFUSALS = {
    ValueError: {
        "NoValue": ("at",), "BadStep": ("at",), "BadProjection": ("part",), "BadRule": (),
        "BadName": (), "WrongEnd": (), "Backward": (), "Twice": (), "Known": ("name",),
        "Strange": (), "OtherCells": (), "NoAsk": ("row",),
    },
    KeyError: {"NoKind": ("kind",), "NoName": ("name",)},
    IndexError: {"NoVersion": ("kind", "version"), "Beyond": ("position",)},
    LookupError: {
        "NoWay": ("early", "late"), "Gone": ("position",), "NoSnapshot": ("position",),
        "Unread": ("kind",),
    },
    ArithmeticError: {
        "Unlike": ("version", "late", "witness"), "Conflict": ("expected", "found"),
        "Unnumbered": ("wanted",),
    },
    RuntimeError: {
        "Busy": (), "Fell": ("step",), "Flipped": ("row",), "Stale": ("name",),
        "Needs": ("position",), "Needed": ("name", "position"), "Pending": ("position",),
    },
}
ROWS = [(base, name, fields) for base, group in REFUSALS.items() for name, fields in group.items()]


class ErrorsTest(unittest.TestCase):
    def test_each_stands_straight_under_its_class(self):
        for base, name, _ in ROWS:
            with self.subTest(name):
                refusal = getattr(errors, name)
                self.assertEqual(refusal.__bases__, (base,))
                self.assertEqual(refusal.__module__, "eventledger.errors")

    def test_fields_by_places(self):
        for _, name, fields in ROWS:
            with self.subTest(name):
                refusal = getattr(errors, name)(*[f"<{field}>" for field in fields])
                self.assertEqual(vars(refusal), {field: f"<{field}>" for field in fields})

    def test_fields_by_names(self):
        for _, name, fields in ROWS:
            with self.subTest(name):
                refusal = getattr(errors, name)(**{field: (field, 7) for field in fields})
                self.assertEqual(vars(refusal), {field: (field, 7) for field in fields})

    def test_a_field_left_out_or_too_many(self):
        for _, name, fields in ROWS:
            if fields:
                with self.subTest(name):
                    with self.assertRaises(TypeError):
                        getattr(errors, name)(*fields[1:])
                    with self.assertRaises(TypeError):
                        getattr(errors, name)(*fields, "more")

    def test_is_caught_by_its_own_name_alone(self):
        for base, name, fields in ROWS:
            refusal = getattr(errors, name)
            for _, other, _ in ROWS:
                if other != name:
                    self.assertFalse(issubclass(refusal, getattr(errors, other)), (name, other))
            with self.subTest(name), self.assertRaises(base):
                raise refusal(*fields)

    def test_there_is_no_other_one(self):
        tree = ast.parse(Path(errors.__file__).read_text(encoding="utf-8"))
        defined = [node.name for node in tree.body if isinstance(node, ast.ClassDef)]
        self.assertEqual(sorted(defined), sorted(name for _, name, _ in ROWS))


if __name__ == "__main__":
    unittest.main()
