"""The interface: every name stands in its module, with its parameters."""

import importlib
import inspect
import unittest

INTERFACE = {
    "textmovers.errors": [
        "MoverError", "InvalidName", "InvalidMachine", "InvalidMove", "InvalidText", "InvalidWord",
        "InvalidOperation", "ParseError(index)", "InvalidNumber(value)", "UnknownName(name)", "TooMany(limit)",
        "NothingToUndo(many)", "Broken(label)", "Loud(state)",
    ],
    "textmovers.base.letters": [
        "is_name(value)", "is_text(letters, value)", "is_turn(letters, value)", "text_at(letters, length, index)",
        "index_of(letters, text)", "texts(letters, length)",
    ],
    "textmovers.machine.machines": ["Machine(letters, states)"],
}

METHODS = {
    "textmovers.machine.machines.Machine": [
        "letters", "states", "turn(self, state)", "nexts(self, state)", "step(self, state, text)",
        "with_state(self, name, turn, nexts)", "part(self, state)", "undone(self)", "__invert__(self)",
        "beside(self, other)", "renamed(self, names)", "__contains__", "__len__(self)", "__iter__(self)", "__eq__",
        "__str__(self)",
    ],
}


class Interface(unittest.TestCase):

    def test_names(self):
        for module, told in INTERFACE.items():
            for line in told:
                with self.subTest(module=module, line=line):
                    name = line.partition("(")[0]
                    value = vars(importlib.import_module(module))[name]
                    self.assertEqual(value.__module__, module)
                    if "(" in line:
                        self.assertEqual(name + str(inspect.signature(value)), line)

    def test_methods_stand_in_their_classes(self):
        for path, told in METHODS.items():
            module, _, owner = path.rpartition(".")
            owner = vars(importlib.import_module(module))[owner]
            for line in told:
                with self.subTest(owner=path, line=line):
                    name = line.partition("(")[0]
                    value = vars(owner)[name]
                    if isinstance(value, classmethod):
                        value = value.__func__
                    if "(" in line:
                        self.assertEqual(name + str(inspect.signature(value)), line)
