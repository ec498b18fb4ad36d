"""The interface: every name stands in its module, with its parameters."""

import importlib
import inspect
import unittest

INTERFACE = {
    "textmovers.errors": [
        "MoverError", "InvalidName", "InvalidMachine", "InvalidMove", "InvalidText", "InvalidWord",
        "InvalidOperation", "ParseError(index)", "InvalidNumber(value)", "UnknownName(name)", "TooMany(limit)",
        "NothingToUndo(many)", "Broken(label)", "Loud(state)",
    ],
    "textmovers.base.letters": [
        "is_name(value)", "is_text(letters, value)", "is_turn(letters, value)", "text_at(letters, length, index)",
        "index_of(letters, text)", "texts(letters, length)",
    ],
    "textmovers.machine.machines": ["Machine(letters, states)"],
    "textmovers.machine.known": ["counter(letters)", "gray()", "towers()", "folded()"],
    "textmovers.move.moves": [
        "Move(letters, *rows)", "idle(letters)", "move_of(machine, state)", "first_turned(letters, turn)",
        "joined_move(turn, *rests)",
    ],
    "textmovers.move.words": [
        "is_word(machine, value)", "word_move(machine, word)", "led(machine, word, text)",
        "way_of(machine, word, text)", "passed(machine, word, text)", "undone_word(machine, word)",
        "joined_word(machine, word, other_word)", "first_words(machine, steps)",
    ],
    "textmovers.move.alike": [
        "apart_text(move, other_move)", "are_alike(one_machine, one_state, other_machine, other_state)",
        "alike_paper(one_machine, one_state, other_machine, other_state)",
        "is_alike_paper(one_machine, one_state, other_machine, other_state, value)", "alike_states(machine)",
        "merged(machine)", "machine_of(move, names)",
    ],
}

METHODS = {
    "textmovers.machine.machines.Machine": [
        "letters", "states", "turn(self, state)", "nexts(self, state)", "step(self, state, text)",
        "with_state(self, name, turn, nexts)", "part(self, state)", "undone(self)", "__invert__(self)",
        "beside(self, other)", "renamed(self, names)", "__contains__", "__len__(self)", "__iter__(self)", "__eq__",
        "__str__(self)",
    ],
    "textmovers.move.moves.Move": [
        "of(cls, letters, rows)", "letters", "rows", "first_turn", "is_idle", "__call__(self, text)",
        "rest(self, text)", "rests(self)", "undone(self)", "__invert__(self)", "__mul__(self, other)",
        "power(self, number)", "moved_by(self, other)", "is_kept(self, text)", "__len__(self)", "__eq__(self, other)",
        "__lt__(self, other)", "__str__(self)",
    ],
}


class Interface(unittest.TestCase):

    def test_names(self):
        for module, told in INTERFACE.items():
            for line in told:
                with self.subTest(module=module, line=line):
                    name = line.partition("(")[0]
                    value = vars(importlib.import_module(module))[name]
                    self.assertEqual(value.__module__, module)
                    if "(" in line:
                        self.assertEqual(name + str(inspect.signature(value)), line)

    def test_methods_stand_in_their_classes(self):
        for path, told in METHODS.items():
            module, _, owner = path.rpartition(".")
            owner = vars(importlib.import_module(module))[owner]
            for line in told:
                with self.subTest(owner=path, line=line):
                    name = line.partition("(")[0]
                    value = vars(owner)[name]
                    if isinstance(value, classmethod):
                        value = value.__func__
                    if "(" in line:
                        self.assertEqual(name + str(inspect.signature(value)), line)
