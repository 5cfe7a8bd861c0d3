import inspect
import pathlib
import subprocess
import sys
import unittest

from namewants import keeps, names, tables

TOP = pathlib.Path(__file__).resolve().parent.parent

FUNCTIONS = (
    (names.is_name, ["thing"]),
    (names.is_beginning, ["thing"]),
    (names.begins, ["name", "beginning"]),
    (names.name_text, ["beginning"]),
    (names.read_name, ["text"]),
    (tables.Table, []),
    (tables.Table.put, ["self", "beginning", "sides"]),
    (tables.Table.drop, ["self", "beginning"]),
    (tables.Table.way, ["self", "name"]),
    (tables.Table.sides, ["self", "name"]),
    (tables.Table.rows, ["self"]),
    (tables.Table.parted, ["self", "other"]),
    (tables.Table.lean, ["self"]),
    (keeps.Keeps, ["room"]),
    (keeps.Keeps.put, ["self", "name", "value", "until", "now"]),
    (keeps.Keeps.got, ["self", "name", "now"]),
    (keeps.Keeps.aged, ["self", "now"]),
    (keeps.Keeps.rows, ["self"]),
)


class InterfaceTest(unittest.TestCase):
    def test_arguments(self):
        for function, arguments in FUNCTIONS:
            with self.subTest(function=function.__qualname__):
                told = inspect.signature(function).parameters
                self.assertEqual(list(told), arguments)
                for argument in told.values():
                    self.assertEqual(argument.kind, inspect.Parameter.POSITIONAL_OR_KEYWORD)
                    self.assertIs(argument.default, inspect.Parameter.empty)

    def test_package_binds_nothing(self):
        # A process of its own: files that other tests draw from are bound in the package by that.
        code = "import namewants; print([name for name in vars(namewants) if name[:2] != '__'])"
        told = subprocess.run([sys.executable, "-c", code], cwd=TOP, capture_output=True, text=True, check=True)
        self.assertEqual(told.stdout, "[]\n")


if __name__ == "__main__":
    unittest.main()
