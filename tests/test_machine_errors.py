"""Wrong arguments of machines: which error comes first, and what it keeps."""

import itertools

from support import BIG, HANOI, LAMP, NO_LETTERS, ODD, STAY, SWAP, VALUES, Case, nested, turns
from textmovers.base.letters import is_name, is_text, is_turn
from textmovers.errors import InvalidMachine, InvalidName, InvalidNumber, InvalidOperation, InvalidText, TooMany
from textmovers.errors import UnknownName
from textmovers.machine.machines import Machine

NAMES = "qrstuvwx"
IDLE = {"e": (STAY, ("e", "e"))}
NO_STATES = [value for value in VALUES if value not in ("a", "e")]
NO_NAMES = [value for value in VALUES if not is_name(value)]
NO_TURNS = [value for value in VALUES if not is_turn(2, value)]
NO_TEXTS = [value for value in VALUES if not is_text(2, value)]
NO_NEXTS = [value for value in VALUES if value != ("a", "e")]


def full(names=NAMES):
    """A machine of two letters with the states of these names."""
    return Machine(2, {name: (STAY, (name, name)) for name in names})


def hashable(value):
    """Whether the value can be a key."""
    try:
        return isinstance(hash(value), int)
    except TypeError:
        return False


class Making(Case):

    def test_letters_decide_first(self):
        for letters in NO_LETTERS:
            for states in (IDLE, {}, None, [], {"A": 1}):
                self.refused_with(InvalidNumber(letters), Machine, letters, states)

    def test_other_values(self):
        for letters in (2, 3, 4):
            for value in VALUES:
                if not (letters == 2 and value == {"a": ((0, 1), ("a", "a"))}):
                    self.refused(InvalidMachine, Machine, letters, value)

    def test_tables_of_other_letters(self):
        for letters, told in itertools.product((2, 3, 4), repeat=2):
            table = {"e": (tuple(range(told)), ("e",) * told)}
            if letters == told:
                self.assertEqual(Machine(letters, table).states, ("e",))
            else:
                self.refused(InvalidMachine, Machine, letters, table)

    def test_names(self):
        for name in NO_NAMES:
            if hashable(name):
                self.refused(InvalidMachine, Machine, 2, {name: (STAY, ("e", "e")), **IDLE})
        for name in ("", "A", "e1", "e ", "e\n", "abcdefghi", "e-e"):
            self.refused(InvalidMachine, Machine, 2, {name: (STAY, (name, name))})

    def test_numbers_of_states(self):
        self.refused(InvalidMachine, Machine, 2, {})
        names = [*NAMES, "e"]
        self.assertEqual(len(Machine(2, {name: (STAY, (name, name)) for name in names[:8]})), 8)
        self.refused(InvalidMachine, Machine, 2, {name: (STAY, (name, name)) for name in names})
        many = [a + b for a, b in itertools.product(NAMES, repeat=2)]
        self.refused(InvalidMachine, Machine, 2, {name: (STAY, (name, name)) for name in many})

    def test_pairs(self):
        for row in [
            *VALUES, (STAY,), (STAY, ("e", "e"), 0), [STAY, ("e", "e")], (("e", "e"), STAY), (STAY, ["e", "e"]),
            (list(STAY), ("e", "e")), {0: STAY, 1: ("e", "e")}, (STAY, {"e": "e"}), (STAY, "ee"), ("01", ("e", "e")),
        ]:
            self.refused(InvalidMachine, Machine, 2, {"e": row})
            self.refused(InvalidMachine, Machine, 2, {**IDLE, "x": row})
            self.refused(InvalidMachine, Machine, 2, {"x": row, **IDLE})

    def test_turns(self):
        for turn in NO_TURNS:
            self.refused(InvalidMachine, Machine, 2, {"e": (turn, ("e", "e"))})
        for turn in [(False, True), (0, True), (1, 1), (0, 2), (-1, 0), (0, 1, 2), (0,), (0, BIG), (0, "1")]:
            self.refused(InvalidMachine, Machine, 2, {"e": (turn, ("e", "e"))})

    def test_next_states(self):
        for value in VALUES:
            if value not in ("a", "e"):
                self.refused(InvalidMachine, Machine, 2, {**IDLE, "a": (STAY, ("e", value))})
                self.refused(InvalidMachine, Machine, 2, {"a": (STAY, (value, "a")), **IDLE})
        for nexts in [("e",), ("e", "e", "e"), (), ["e", "e"], "ee", None, ("e", "x"), ("E", "e"), ("e", ["e"])]:
            self.refused(InvalidMachine, Machine, 2, {"e": (STAY, nexts)})

    def test_deep_values(self):
        for kind in (tuple, list, dict):
            self.refused(InvalidMachine, Machine, 2, nested(kind, 10))
            self.refused(InvalidMachine, Machine, 2, {"e": nested(kind, 9)})


class States(Case):

    def test_unknown_names(self):
        for state in NO_STATES:
            for call in (ODD.turn, ODD.nexts, ODD.part):
                self.refused_with(UnknownName(state), call, state)
            for text in ("01", "2", None, ["0"]):
                self.refused_with(UnknownName(state), ODD.step, state, text)

    def test_each_machine_has_its_own(self):
        self.refused_with(UnknownName("b"), ODD.turn, "b")
        self.refused_with(UnknownName("e"), LAMP.nexts, "e")
        self.refused_with(UnknownName("b"), HANOI.part("a").turn, "b")

    def test_texts(self):
        for text in NO_TEXTS:
            self.refused(InvalidText, ODD.step, "a", text)
        self.refused(InvalidText, ODD.step, "a", "012")
        self.refused(InvalidText, HANOI.step, "a", "0123")
        self.refused(InvalidText, ODD.step, "a", "0" * 201)
        self.assertEqual(HANOI.step("a", "2" * 200), ("2" * 200, "a"))


class WithState(Case):

    def test_name_decides_first(self):
        for name in NO_NAMES:
            self.refused(InvalidName, ODD.with_state, name, STAY, ("e", "e"))
            self.refused(InvalidName, ODD.with_state, name, None, None)
            self.refused(InvalidName, full().with_state, name, STAY, ("q", "q"))

    def test_turns(self):
        for turn in NO_TURNS:
            self.refused(InvalidMachine, ODD.with_state, "x", turn, ("e", "e"))
            self.refused(InvalidMachine, ODD.with_state, "a", turn, ("e", "e"))
            self.refused(InvalidMachine, full().with_state, "a", turn, ("q", "q"))

    def test_next_states(self):
        for nexts in NO_NEXTS:
            self.refused(InvalidMachine, ODD.with_state, "x", STAY, nexts)
            self.refused(InvalidMachine, ODD.with_state, "e", STAY, nexts)
        for value in NO_STATES:
            if value != "x":
                self.refused(InvalidMachine, ODD.with_state, "x", STAY, ("a", value))
                self.refused(InvalidMachine, ODD.with_state, "x", STAY, (value, "x"))
                self.refused(InvalidMachine, full("bcdfghij").with_state, "x", STAY, (value, "x"))
        for nexts in [("x",), ("x", "a", "e"), ["x", "a"], "xa", (), ("y", "a"), {"x": "a"}]:
            self.refused(InvalidMachine, ODD.with_state, "x", STAY, nexts)

    def test_a_state_that_is_there(self):
        self.refused(InvalidOperation, ODD.with_state, "a", STAY, ("a", "e"))
        for name in NAMES:
            self.refused(InvalidOperation, full().with_state, name, STAY, ("q", "q"))

    def test_too_many(self):
        self.refused_with(TooMany(8), full().with_state, "a", STAY, ("a", "q"))
        self.assertEqual(len(full(NAMES[:7]).with_state("a", STAY, ("a", "q"))), 8)


class Beside(Case):

    def test_no_machines(self):
        for value in VALUES:
            if not isinstance(value, Machine) or value.letters != 2:
                self.refused(InvalidMachine, ODD.beside, value)
                self.refused(InvalidMachine, full().beside, value)

    def test_other_letters(self):
        for letters, told in itertools.permutations((2, 3, 4), 2):
            one = Machine(letters, {"a": (turns(letters)[1], ("a",) * letters)})
            other = Machine(told, {"b": (turns(told)[1], ("b",) * told)})
            self.refused(InvalidMachine, one.beside, other)
            self.refused(InvalidMachine, one.beside, other.renamed({"b": "a"}))

    def test_a_state_of_the_same_name(self):
        self.refused(InvalidOperation, ODD.beside, ODD)
        self.refused(InvalidOperation, ODD.beside, LAMP)
        self.refused(InvalidOperation, full().beside, full("abcdefgq"))
        self.refused(InvalidOperation, full("xa").beside, Machine(2, {"x": (SWAP, ("x", "x"))}))

    def test_too_many(self):
        self.refused_with(TooMany(8), full().beside, ODD)
        self.refused_with(TooMany(8), ODD.beside, full("qrstuvw"))
        self.refused_with(TooMany(8), full().beside, full("abcdefgh"))
        self.assertEqual(len(ODD.beside(full("qrstuv"))), 8)


class Renamed(Case):

    def test_other_values(self):
        for value in VALUES:
            if value != {}:
                self.refused(InvalidOperation, ODD.renamed, value)
        self.refused(InvalidOperation, ODD.renamed, [("a", "b")])
        self.refused(InvalidOperation, ODD.renamed, (("a", "b"),))

    def test_unknown_states(self):
        for name in ("b", "", "A", "a ", 1, True, None, ("a",), ()):
            self.refused(InvalidOperation, ODD.renamed, {name: "x"})
            self.refused(InvalidOperation, ODD.renamed, {"a": "y", name: "x"})

    def test_no_names(self):
        for name in NO_NAMES:
            self.refused(InvalidOperation, ODD.renamed, {"a": name})
            self.refused(InvalidOperation, ODD.renamed, {"a": "x", "e": name})

    def test_two_states_of_one_name(self):
        self.refused(InvalidOperation, ODD.renamed, {"a": "e"})
        self.refused(InvalidOperation, ODD.renamed, {"e": "a"})
        self.refused(InvalidOperation, ODD.renamed, {"a": "x", "e": "x"})
        self.refused(InvalidOperation, HANOI.renamed, {"a": "b", "b": "c"})

    def test_refused_calls_change_nothing(self):
        names = {"a": "e"}
        self.refused(InvalidOperation, ODD.renamed, names)
        self.assertEqual(names, {"a": "e"})
        self.assertEqual(str(ODD), "machine of 2 letters: a 10 e a, e 01 e e")


class Operators(Case):

    def test_no_index_and_no_order(self):
        for call in (lambda: ODD[0], lambda: ODD < HANOI, lambda: ODD * ODD):
            self.refused(TypeError, call)
