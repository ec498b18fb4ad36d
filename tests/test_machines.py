"""Machines: what they tell, how they lead texts, and the machines that come of them."""

import copy
import random

from support import (
    FOLDED, GRAY, HANOI, LAMP, ODD, STAY, SWAP, VALUES, Case, all_texts, model_step, random_table, random_tables,
    random_texts, turns,
)
from textmovers.machine.machines import Machine

TABLES = random_tables(1)
NAMES = "qrstuvwx"


def table_of(machine):
    """The dict of a machine that its methods tell."""
    return {name: (machine.turn(name), machine.nexts(name)) for name in machine.states}


def unlike_tables(letters, table):
    """Each table with one turn or one next state changed."""
    for name, (turn, nexts) in table.items():
        for other in turns(letters):
            if other != turn:
                yield {**table, name: (other, nexts)}
        for at in range(letters):
            for behind in table:
                if behind != nexts[at]:
                    yield {**table, name: (turn, nexts[:at] + (behind,) + nexts[at + 1:])}


class Told(Case):

    def test_properties(self):
        for letters, table in TABLES:
            machine = Machine(letters, table)
            with self.subTest(letters=letters, table=table):
                self.assertEqual(machine.letters, letters)
                self.assertIs(type(machine.letters), int)
                self.assertEqual(machine.states, tuple(sorted(table)))
                self.assertEqual(table_of(machine), table)
                self.assertEqual(len(machine), len(table))
                self.assertEqual(list(machine), sorted(table))
                self.assertEqual(tuple(machine), machine.states)

    def test_string(self):
        for letters, table in TABLES:
            parts = []
            for name in sorted(table):
                turn, nexts = table[name]
                parts.append(f"{name} {''.join(map(str, turn))} {' '.join(nexts)}")
            told = f"machine of {letters} letters: {', '.join(parts)}"
            self.assertEqual(str(Machine(letters, table)), told)
        self.assertEqual(str(LAMP), "machine of 2 letters: a 10 a b, b 01 a b")

    def test_one_and_eight_states(self):
        self.assertEqual(len(Machine(2, {"a": (STAY, ("a", "a"))})), 1)
        self.assertEqual(len(Machine(4, {name: ((0, 1, 2, 3), ("q",) * 4) for name in NAMES})), 8)

    def test_order_of_the_dict(self):
        for letters, table in TABLES:
            backwards = {name: table[name] for name in reversed(list(table))}
            machine, other = Machine(letters, table), Machine(letters, backwards)
            self.assertTrue(machine == other)
            self.assertFalse(machine != other)
            self.assertEqual((str(machine), machine.states), (str(other), other.states))

    def test_one_change_is_unlike(self):
        for letters, table in TABLES[::2]:
            machine = Machine(letters, table)
            for other in unlike_tables(letters, table):
                self.assertFalse(machine == Machine(letters, other))
                self.assertTrue(machine != Machine(letters, other))

    def test_other_names_or_letters_are_unlike(self):
        self.assertFalse(ODD == Machine(2, {"a": (SWAP, ("f", "a")), "f": (STAY, ("f", "f"))}))
        self.assertFalse(ODD == ODD.with_state("b", STAY, ("b", "b")))
        self.assertFalse(ODD.with_state("b", STAY, ("b", "b")) == ODD)
        idle = [Machine(letters, {"e": (tuple(range(letters)), ("e",) * letters)}) for letters in (2, 3, 4)]
        for one in idle:
            for other in idle:
                self.assertIs(one == other, one is other)

    def test_equal_to_every_kind_of_value(self):
        for value in [*VALUES, object(), "a", ("a",), {"a": (SWAP, ("e", "a"))}]:
            same = isinstance(value, Machine) and value.letters == 2
            self.assertIs(ODD == value, same)
            self.assertIs(ODD != value, not same)
            self.assertIs(value == ODD, same)
            self.assertIs(value != ODD, not same)

    def test_contains_every_kind_of_value(self):
        for value in VALUES:
            self.assertIs(value in ODD, value == "a" or value == "e")
        for letters, table in TABLES:
            machine = Machine(letters, table)
            for name in [*NAMES, *table, "", "a", "b"]:
                self.assertIs(name in machine, name in table)

    def test_no_shared_state(self):
        for letters, table in TABLES:
            given = copy.deepcopy(table)
            machine = Machine(letters, given)
            first = next(iter(given))
            given[first] = (tuple(range(letters))[::-1], (first,) * letters)
            given["other"] = given[first]
            self.assertEqual(table_of(machine), table)
            given.clear()
            self.assertEqual(table_of(machine), table)
            self.assertTrue(machine == Machine(letters, table))

    def test_arguments_are_not_changed(self):
        for letters, table in TABLES[::3]:
            given = copy.deepcopy(table)
            machine = Machine(letters, given)
            names = {machine.states[0]: "qqq"}
            machine.renamed(names)
            self.assertEqual((given, list(given)), (table, list(table)))
            self.assertEqual(names, {machine.states[0]: "qqq"})

    def test_methods_leave_the_machine(self):
        for letters, table in TABLES:
            if len(table) == 8:
                continue
            machine = Machine(letters, table)
            first = machine.states[0]
            machine.step(first, "0110")
            machine.with_state("qqq", machine.turn(first), ("qqq",) * letters)
            machine.part(first)
            machine.undone()
            self.assertIsInstance(~machine, Machine)
            machine.renamed({first: "qqq"})
            machine.beside(Machine(letters, {"qqq": (machine.turn(first), ("qqq",) * letters)}))
            self.assertEqual((machine.letters, table_of(machine)), (letters, table))
            self.assertEqual(machine.states, tuple(sorted(table)))


class Steps(Case):

    def test_against_the_model(self):
        for letters, table in TABLES:
            machine = Machine(letters, table)
            for text in random_texts(len(table), letters):
                for state in table:
                    self.assertEqual(machine.step(state, text), model_step(table, state, text))

    def test_unlike_texts_come_out_unlike(self):
        for letters, table in TABLES[::4]:
            machine = Machine(letters, table)
            for state in table:
                come = [machine.step(state, text)[0] for text in all_texts(letters, 4)]
                self.assertEqual(sorted(come), all_texts(letters, 4))

    def test_first_letter_and_then_the_rest(self):
        for text in all_texts(3, 4):
            for state in HANOI:
                first, behind = HANOI.step(state, text[:1])
                self.assertEqual(HANOI.step(state, text)[0], first + HANOI.step(behind, text[1:])[0])

    def test_empty_text(self):
        for letters, table in TABLES:
            for state in table:
                self.assertEqual(Machine(letters, table).step(state, ""), ("", state))

    def test_two_hundred_letters(self):
        self.assertEqual(ODD.step("a", "1" * 200), ("0" * 200, "a"))
        self.assertEqual(ODD.step("a", "1" * 199 + "0"), ("0" * 199 + "1", "e"))


class Undone(Case):

    def test_leads_back(self):
        for letters, table in TABLES:
            machine = Machine(letters, table)
            back = machine.undone()
            for text in random_texts(7, letters):
                for state in machine:
                    come, behind = machine.step(state, text)
                    self.assertEqual(back.step(state, come), (text, behind))
                    come, behind = back.step(state, text)
                    self.assertEqual(machine.step(state, come), (text, behind))

    def test_sign_and_name_are_the_same(self):
        for letters, table in TABLES:
            machine = Machine(letters, table)
            self.assertTrue(~machine == machine.undone())
            self.assertEqual((~machine).states, machine.states)

    def test_twice_is_nothing(self):
        for letters, table in TABLES:
            machine = Machine(letters, table)
            self.assertTrue(~~machine == machine)
            self.assertTrue(machine.undone().undone() == machine)

    def test_example(self):
        self.assertEqual([(~LAMP).turn("a"), (~LAMP).nexts("a"), (~LAMP).nexts("b")], [SWAP, ("b", "a"), ("a", "b")])


class Parts(Case):

    def reached(self, table, state):
        """The states behind all texts of less letters than there are states."""
        found = {state}
        for _ in table:
            found |= {behind for name in found for behind in table[name][1]}
        return found

    def test_just_what_is_reached(self):
        for letters, table in TABLES:
            machine = Machine(letters, table)
            for state in machine:
                part = machine.part(state)
                found = self.reached(table, state)
                self.assertEqual(part.states, tuple(sorted(found)))
                self.assertTrue(part == Machine(letters, {name: table[name] for name in found}))

    def test_small_parts(self):
        self.assertEqual([HANOI.part(state).states for state in HANOI], [("a", "e"), ("b", "e"), ("c", "e"), ("e",)])
        self.assertTrue(LAMP.part("b") == LAMP)
        chain = {NAMES[at]: (STAY, (NAMES[at], NAMES[min(at + 1, 7)])) for at in range(8)}
        for at in range(8):
            self.assertEqual("".join(Machine(2, chain).part(NAMES[at]).states), NAMES[at:])


class Beside(Case):

    def test_states_of_both(self):
        chance = random.Random(3)
        for letters in (2, 3, 4):
            for many in range(1, 8):
                one = random_table(chance, letters, many)
                other = {}
                while not other or set(one) & set(other):
                    other = random_table(chance, letters, 8 - many)
                both = Machine(letters, one).beside(Machine(letters, other))
                self.assertTrue(both == Machine(letters, {**one, **other}))
                self.assertTrue(Machine(letters, other).beside(Machine(letters, one)) == both)
                self.assertEqual(len(both), 8)


class Renamed(Case):

    def test_names_exchanged(self):
        turned = ODD.renamed({"a": "e", "e": "a"})
        self.assertEqual(str(turned), "machine of 2 letters: a 01 a a, e 10 a e")
        around = GRAY.renamed({"a": "b", "b": "e", "e": "a"})
        self.assertEqual(str(around), "machine of 2 letters: a 01 a a, b 10 a a, e 01 e b")

    def test_empty_dict(self):
        for letters, table in TABLES:
            self.assertTrue(Machine(letters, table).renamed({}) == Machine(letters, table))

    def test_some_names(self):
        self.assertEqual(str(GRAY.renamed({"b": "zz"})), "machine of 2 letters: a 10 e e, e 01 e e, zz 01 zz a")
        self.assertTrue(GRAY.renamed({"b": "b", "a": "a"}) == GRAY)

    def test_against_the_table(self):
        chance = random.Random(4)
        for letters, table in TABLES:
            names = {name: new for name, new in zip(table, chance.sample(NAMES, len(table)))}
            told = {
                names[name]: (turn, tuple(names[behind] for behind in nexts))
                for name, (turn, nexts) in table.items()
            }
            self.assertTrue(Machine(letters, table).renamed(names) == Machine(letters, told))

    def test_a_state_keeps_its_steps(self):
        renamed = HANOI.renamed({"a": "b", "b": "a"})
        for text in all_texts(3, 3):
            self.assertEqual(renamed.step("b", text)[0], HANOI.step("a", text)[0])
            self.assertEqual(renamed.step("a", text)[0], HANOI.step("b", text)[0])


class WithState(Case):

    def test_one_state_more(self):
        for letters, table in TABLES:
            if len(table) == 8:
                continue
            machine = Machine(letters, table)
            nexts = tuple(("qqq", *table)[at % (len(table) + 1)] for at in range(letters))
            turn = turns(letters)[-1]
            self.assertTrue(machine.with_state("qqq", turn, nexts) == Machine(letters, {**table, "qqq": (turn, nexts)}))

    def test_itself_among_its_next_states(self):
        self.assertEqual(ODD.with_state("x", SWAP, ("x", "x")).nexts("x"), ("x", "x"))
        self.assertEqual(ODD.with_state("x", SWAP, ("a", "x")).step("x", "110"), ("001", "a"))

    def test_none_of_its_own(self):
        self.assertEqual(FOLDED.with_state("x", STAY, ("a", "b")).nexts("x"), ("a", "b"))

    def test_the_eighth(self):
        machine = ODD
        for name in NAMES[:6]:
            machine = machine.with_state(name, STAY, (name, "a"))
        self.assertEqual(len(machine), 8)
