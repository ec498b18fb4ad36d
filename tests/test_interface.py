"""The interface: every name stands in its module, with its parameters."""

import importlib
import inspect
import unittest

INTERFACE = {
    "textmovers.errors": [
        "MoverError", "InvalidName", "InvalidMachine", "InvalidMove", "InvalidText", "InvalidWord",
        "InvalidOperation", "ParseError(index)", "InvalidNumber(value)", "UnknownName(name)", "TooMany(limit)",
        "NothingToUndo(many)", "Broken(label)", "Loud(state)",
    ],
    "textmovers.base.letters": [
        "is_name(value)", "is_text(letters, value)", "is_turn(letters, value)", "text_at(letters, length, index)",
        "index_of(letters, text)", "texts(letters, length)",
    ],
    "textmovers.machine.machines": ["Machine(letters, states)"],
    "textmovers.machine.known": ["counter(letters)", "gray()", "towers()", "folded()"],
    "textmovers.move.moves": [
        "Move(letters, *rows)", "idle(letters)", "move_of(machine, state)", "first_turned(letters, turn)",
        "joined_move(turn, *rests)",
    ],
    "textmovers.move.words": [
        "is_word(machine, value)", "word_move(machine, word)", "led(machine, word, text)",
        "way_of(machine, word, text)", "passed(machine, word, text)", "undone_word(machine, word)",
        "joined_word(machine, word, other_word)", "first_words(machine, steps)",
    ],
    "textmovers.move.alike": [
        "apart_text(move, other_move)", "are_alike(one_machine, one_state, other_machine, other_state)",
        "alike_paper(one_machine, one_state, other_machine, other_state)",
        "is_alike_paper(one_machine, one_state, other_machine, other_state, value)", "alike_states(machine)",
        "merged(machine)", "machine_of(move, names)",
    ],
    "textmovers.grow.busy": [
        "busy(move, length)", "busy_sum(move, length)", "kind(move)", "busy_row(move)", "kind_paper(move)",
        "is_kind_paper(move, value)", "is_quiet(machine)", "loud_state(machine)",
    ],
    "textmovers.core.cores": [
        "core(machine)", "is_core_move(machine, move)", "core_rows(machine)", "core_paper(machine)",
        "is_core_paper(machine, value)", "core_depth(machine)", "meet_depth(machine)", "settled(machine, word)",
        "rest_place(machine, word, text)",
    ],
    "textmovers.core.outlines": [
        "outline(machine, word)", "outline_of(machine, move)", "is_outline(machine, value)",
        "outline_led(machine, outline, text)", "outline_rest(machine, outline, text)",
        "outline_depth(machine, outline)", "outline_move(machine, outline)",
        "outline_product(machine, outline, other_outline)", "outline_undone(machine, outline)",
        "outline_power(machine, outline, number)", "joined_outline(machine, turn, *outlines)",
    ],
    "textmovers.ring.rings": [
        "ring_rest(move, text)", "ring_length(move, text)", "ring_texts(move, text)", "led_often(move, text, number)",
        "times(move, text, other_text)", "ring_rests(move)", "ring_table(move)", "ring_counts(move, length)",
    ],
    "textmovers.ring.orders": [
        "order(move)", "measures(move)", "is_idle_after(move, number)", "order_paper(move)",
        "is_order_paper(move, value)",
    ],
    "textmovers.ring.rounds": [
        "round_rests(move)", "first_stop(move)", "goes_round(move, length=None)", "round_paper(move)",
        "is_round_paper(move, value)", "place_in_round(move, text)", "text_in_round(move, length, place)",
        "has_rotations(move)", "level_sum(move, length)", "stop_by_sums(move)",
    ],
    "textmovers.level.levels": [
        "level_turn(move, length)", "pieces(machine, length)", "piece_of(machine, text)",
        "piece_number(machine, length)", "parting_length(machine)", "level_size(machine, length)",
        "is_level_turn(machine, length, value)",
    ],
    "textmovers.level.depths": [
        "is_rotating_machine(machine)", "count(machine, word, pattern)", "rotation(machine, word, text)",
        "rotation_sum(machine, text)", "are_same(machine, word, other_word, most)", "depth(machine, length)",
        "zero_sizes(machine, length)", "depth_pair(machine, length, most)",
        "is_depth_pair(machine, length, most, value)",
    ],
    "textmovers.endless.texts": ["Endless(letters, ring, *, tail='')"],
    "textmovers.endless.near": [
        "leaders(machine, endless, other_endless, length)", "end_moves(machine, endless, other_endless)",
        "are_near(machine, endless, other_endless)", "near_ones(machine, endless)",
        "near_groups(machine, *endless_texts)", "near_paper(machine, endless, other_endless)",
        "is_near_paper(machine, endless, other_endless, value)", "far_length(machine, endless, other_endless)",
    ],
    "textmovers.way.ways": [
        "ends(machine, length)", "end_ways(machine, length)", "fewest(machine, text, other_text)",
        "short_word(machine, text, other_text)", "is_short_word(machine, text, other_text, value)",
    ],
    "textmovers.shop.shop": ["Shop(machine)"],
    "textmovers.text.formats": [
        "write_machine(machine)", "write_move(move)", "write_value(value)", "read_machine(string)", "read_move(string)",
        "read_value(string)",
    ],
    "textmovers.text.shops": ["write_shop(shop)", "read_shop(string)"],
    "textmovers.text.shell": ["Shell(machine)"],
}

CONSTANTS = {
    "textmovers.base.letters": {"MAX_TEXT": 200, "MAX_STATES": 8, "MAX_RESTS": 60},
    "textmovers.core.outlines": {"MAX_ROWS": 2000},
    "textmovers.ring.rings": {"MAX_RINGS": 100, "MAX_SHOWN": 256},
    "textmovers.ring.rounds": {"MAX_ROUNDS": 100, "MAX_SUMS": 1000},
    "textmovers.endless.texts": {"MAX_RING": 12, "MAX_TAIL": 40},
    "textmovers.shop.shop": {
        "MAX_KEPT": 8, "MAX_PROMISES": 8, "SORTS": ("alike", "calm", "idle", "leads", "round", "swap", "times"),
    },
}

METHODS = {
    "textmovers.machine.machines.Machine": [
        "letters", "states", "turn(self, state)", "nexts(self, state)", "step(self, state, text)",
        "with_state(self, name, turn, nexts)", "part(self, state)", "undone(self)", "__invert__(self)",
        "beside(self, other)", "renamed(self, names)", "__contains__", "__len__(self)", "__iter__(self)", "__eq__",
        "__str__(self)",
    ],
    "textmovers.move.moves.Move": [
        "of(cls, letters, rows)", "letters", "rows", "first_turn", "is_idle", "__call__(self, text)",
        "rest(self, text)", "rests(self)", "undone(self)", "__invert__(self)", "__mul__(self, other)",
        "power(self, number)", "moved_by(self, other)", "is_kept(self, text)", "__len__(self)", "__eq__(self, other)",
        "__lt__(self, other)", "__str__(self)",
    ],
    "textmovers.endless.texts.Endless": [
        "letters", "ring", "tail", "end(self, length)", "put(self, text)", "cut(self, number)", "__eq__(self, other)",
        "__lt__(self, other)", "__str__(self)",
    ],
    "textmovers.shop.shop.Shop": [
        "machine", "names", "labels", "words", "promises", "keep(self, name, word)", "link(self, name, one, other)",
        "turn_back(self, name)", "drop(self, name)", "promise(self, label, promise)", "release(self, label)",
        "__getitem__(self, at)", "move(self, name)", "led(self, name, text)", "would_break(self, name, word)",
        "undo(self, *, many=1)", "redo(self, *, many=1)", "trial(self)", "during(self, call)", "twin(self)",
        "__contains__(self, value)", "__len__(self)", "__iter__(self)", "__eq__(self, other)", "__str__(self)",
    ],
    "textmovers.text.shell.Shell": ["shop(self)", "__call__(self, line)", "answer(self, line)"],
}


class Interface(unittest.TestCase):

    def test_names(self):
        for module, told in INTERFACE.items():
            for line in told:
                with self.subTest(module=module, line=line):
                    name = line.partition("(")[0]
                    value = vars(importlib.import_module(module))[name]
                    self.assertEqual(value.__module__, module)
                    if "(" in line:
                        self.assertEqual(name + str(inspect.signature(value)), line)

    def test_constants(self):
        for module, told in CONSTANTS.items():
            for name, value in told.items():
                self.assertEqual(vars(importlib.import_module(module))[name], value)

    def test_methods_stand_in_their_classes(self):
        for path, told in METHODS.items():
            module, _, owner = path.rpartition(".")
            owner = vars(importlib.import_module(module))[owner]
            for line in told:
                with self.subTest(owner=path, line=line):
                    name = line.partition("(")[0]
                    value = vars(owner)[name]
                    if isinstance(value, classmethod):
                        value = value.__func__
                    if "(" in line:
                        self.assertEqual(name + str(inspect.signature(value)), line)
