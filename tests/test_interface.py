import inspect
import pathlib
import subprocess
import sys
import unittest

from namewants import houses, keeps, laying, names, nets, stories, tables

TOP = pathlib.Path(__file__).resolve().parent.parent

FUNCTIONS = (
    (names.is_name, ["thing"]),
    (names.is_beginning, ["thing"]),
    (names.begins, ["name", "beginning"]),
    (names.name_text, ["beginning"]),
    (names.read_name, ["text"]),
    (tables.Table, []),
    (tables.Table.put, ["self", "beginning", "sides"]),
    (tables.Table.drop, ["self", "beginning"]),
    (tables.Table.way, ["self", "name"]),
    (tables.Table.sides, ["self", "name"]),
    (tables.Table.rows, ["self"]),
    (tables.Table.parted, ["self", "other"]),
    (tables.Table.lean, ["self"]),
    (keeps.Keeps, ["room"]),
    (keeps.Keeps.put, ["self", "name", "value", "until", "now"]),
    (keeps.Keeps.got, ["self", "name", "now"]),
    (keeps.Keeps.aged, ["self", "now"]),
    (keeps.Keeps.rows, ["self"]),
    (houses.is_letter, ["thing"]),
    (houses.House, ["number", "sides", "room=4", "wait=6"]),
    (houses.House.ask, ["self", "name", "now"]),
    (houses.House.come, ["self", "side", "letter", "now"]),
    (houses.House.tick, ["self", "now"]),
    (houses.House.own, ["self", "name", "value", "life"]),
    (houses.House.disown, ["self", "name"]),
    (houses.House.teach, ["self", "beginning", "sides"]),
    (houses.House.forget, ["self", "beginning"]),
    (houses.House.end, ["self", "asker"]),
    (houses.House.waits, ["self"]),
    (houses.House.keeps, ["self"]),
    (houses.House.owns, ["self"]),
    (houses.House.table, ["self"]),
    (nets.Net, ["houses", "ways", "room=4", "wait=6"]),
    (nets.Net.ask, ["self", "house", "name"]),
    (nets.Net.end, ["self", "house", "asker"]),
    (nets.Net.own, ["self", "house", "name", "value", "life"]),
    (nets.Net.disown, ["self", "house", "name"]),
    (nets.Net.teach, ["self", "house", "beginning", "sides"]),
    (nets.Net.forget, ["self", "house", "beginning"]),
    (nets.Net.come, ["self", "sender", "receiver"]),
    (nets.Net.lose, ["self", "sender", "receiver"]),
    (nets.Net.cut, ["self", "one", "other"]),
    (nets.Net.mend, ["self", "one", "other"]),
    (nets.Net.leave, ["self", "house"]),
    (nets.Net.settle, ["self"]),
    (nets.Net.tick, ["self"]),
    (nets.Net.now, ["self"]),
    (nets.Net.size, ["self"]),
    (nets.Net.ways, ["self"]),
    (nets.Net.on_way, ["self", "sender", "receiver"]),
    (nets.Net.alive, ["self"]),
    (nets.Net.at_house, ["self", "number"]),
    (nets.Net.leads, ["self", "house", "name"]),
    (nets.Net.__len__, ["self"]),
    (laying.laid, ["houses", "ways", "homes"]),
    (laying.taught, ["net", "homes"]),
    (stories.story_text, ["story"]),
    (stories.read_story, ["text"]),
    (stories.played, ["net", "story"]),
)


class InterfaceTest(unittest.TestCase):
    def test_arguments(self):
        for function, arguments in FUNCTIONS:
            with self.subTest(function=function.__qualname__):
                told = inspect.signature(function).parameters.values()
                self.assertEqual([str(argument) for argument in told], arguments)
                for argument in told:
                    by_name = argument.default is not inspect.Parameter.empty
                    self.assertEqual(argument.kind == inspect.Parameter.KEYWORD_ONLY, by_name)

    def test_by_their_names_alone(self):
        self.assertRaises(TypeError, houses.House, 0, [1], 4)
        self.assertRaises(TypeError, houses.House, 0, [1], 4, 6)
        self.assertRaises(TypeError, nets.Net, 2, [(0, 1)], 4)
        self.assertRaises(TypeError, nets.Net, 2, [(0, 1)], 4, 6)
        self.assertEqual(houses.House(0, [1], wait=6, room=4).waits(), [])
        self.assertEqual(nets.Net(2, [(0, 1)], wait=6, room=4).size(), 2)

    def test_package_binds_nothing(self):
        # A process of its own: files that other tests draw from are bound in the package by that.
        code = "import namewants; print([name for name in vars(namewants) if name[:2] != '__'])"
        told = subprocess.run([sys.executable, "-c", code], cwd=TOP, capture_output=True, text=True, check=True)
        self.assertEqual(told.stdout, "[]\n")


if __name__ == "__main__":
    unittest.main()
