"""Moves and states that are alike or apart, and the papers that show it."""

import itertools
import random

from support import (
    FOLDED, GRAY, HANOI, LAMP, ODD, STAY, SWAP, VALUES, Case, model_least, random_moves, random_table, random_texts,
    ring_move, short_texts,
)
from textmovers.base.letters import is_name, is_text
from textmovers.errors import InvalidMachine, InvalidMove, InvalidOperation, UnknownName
from textmovers.machine.machines import Machine
from textmovers.move.alike import alike_paper, alike_states, apart_text, are_alike, is_alike_paper, machine_of, merged
from textmovers.move.moves import Move, first_turned, idle, joined_move, move_of

NO_MACHINES = [value for value in VALUES if not isinstance(value, Machine)]
NO_MOVES = [value for value in VALUES if not isinstance(value, Move)]
TWICE = ODD.beside(ODD.renamed({"a": "x", "e": "y"}))


def doubled(machine):
    """The machine with its states a second time, under other names."""
    return machine.beside(machine.renamed({name: "z" + name[:7] for name in machine}))


def machines_by_chance(seed, many=40, most=4):
    """Machines of 2 to 4 letters, many of whose states are alike."""
    chance = random.Random(seed)
    found = []
    for _ in range(many):
        letters = chance.choice((2, 2, 3, 4))
        table = random_table(chance, letters, chance.randint(1, most))
        for name in list(table):
            other = chance.choice(list(table))
            if chance.random() < 0.6:
                table[name] = table[other]
        found.append(Machine(letters, table))
    return found


def model_apart(one, other):
    """The first text, among those of fewer letters than both have rests, that is led apart."""
    for text in short_texts(one.letters, len(one) + len(other) - 1):
        if one(text) != other(text):
            return text
    return None


def model_is_table(one_machine, one_state, other_machine, other_state, pairs):
    """What the document says of a tuple of pairs that shows that two states are alike."""
    if type(pairs) is not tuple:
        return False
    for pair in pairs:
        if type(pair) is not tuple or len(pair) != 2 or not all(type(part) is str for part in pair):
            return False
        if pair[0] not in one_machine.states or pair[1] not in other_machine.states:
            return False
    if list(pairs) != sorted(set(pairs)) or (one_state, other_state) not in pairs:
        return False
    return all(
        one_machine.turn(one) == other_machine.turn(other)
        and set(zip(one_machine.nexts(one), other_machine.nexts(other))) <= set(pairs)
        for one, other in pairs
    )


class Apart(Case):

    def test_against_all_texts(self):
        for letters, most in ((2, 4), (3, 3), (4, 2)):
            moves = [*random_moves(letters, letters, 12, most), idle(letters)]
            for one, other in itertools.product(moves, repeat=2):
                self.assertEqual(apart_text(one, other), model_apart(one, other))

    def test_moves_that_are_nearly_alike(self):
        chance = random.Random(3)
        for letters in (2, 3):
            for _ in range(40):
                one = random_moves(chance.random(), letters, 1, 4)[0]
                row = chance.randrange(len(one))
                rows = list(one.rows)
                rows[row] = (rows[row][0], tuple(chance.randrange(len(one)) for _ in range(letters)))
                other = Move(letters, *rows)
                self.assertEqual(apart_text(one, other), model_apart(one, other))
                self.assertEqual(apart_text(other, one), apart_text(one, other))

    def test_equal_moves(self):
        for move in random_moves(5, 3):
            self.assertIsNone(apart_text(move, move))
            self.assertIsNone(apart_text(move, Move(3, *(move.rows * 2))))

    def test_long_ones(self):
        for many in (1, 2, 30, 58):
            ahead = [(STAY, (at + 1, at + 1)) for at in range(many)]
            late = Move(2, *ahead, (SWAP, (many + 1,) * 2), (STAY, (many + 1,) * 2))
            self.assertEqual(apart_text(late, idle(2)), "0" * (many + 1))
            self.assertEqual(apart_text(idle(2), late), "0" * (many + 1))
        self.assertEqual(apart_text(ring_move(59), ring_move(60)), "0" * 60)
        hidden = [(STAY, (0, at + 1)) for at in range(59)] + [(STAY, (0, 0))]
        other = hidden[:59] + [(SWAP, (0, 0))]
        self.assertEqual(apart_text(Move(2, *hidden), Move(2, *other)), "1" * 59 + "0")

    def test_fewer_letters_than_both_have_rests_and_the_last_letter_alone(self):
        for letters in (2, 3, 4):
            for one, other in itertools.product(random_moves(letters + 5, letters, 12, 40), repeat=2):
                text = apart_text(one, other)
                self.assertIs(text is None, one == other)
                if text is not None:
                    together = {rest.rows for rest in one.rests() + other.rests()}
                    self.assertLess(len(text), len(together))
                    self.assertEqual(one(text)[:-1], other(text)[:-1])
                    self.assertNotEqual(one(text)[-1], other(text)[-1])

    def test_the_least_letter(self):
        one, other = first_turned(3, (0, 2, 1)), first_turned(3, (0, 1, 2))
        self.assertEqual(apart_text(one, other), "1")
        self.assertEqual(apart_text(joined_move((0, 1), idle(2), first_turned(2, SWAP)), idle(2)), "10")

    def test_no_moves(self):
        for value in NO_MOVES:
            self.refused(InvalidMove, apart_text, value, idle(2))
            self.refused(InvalidMove, apart_text, value, value)
            self.refused(InvalidMove, apart_text, idle(2), value)
        for one, other in itertools.permutations((2, 3, 4), 2):
            self.refused(InvalidMove, apart_text, idle(one), idle(other))


class Alike(Case):

    def test_against_texts(self):
        for machine in [*machines_by_chance(1), ODD, GRAY, HANOI, LAMP, FOLDED]:
            texts = short_texts(machine.letters, 7 if machine.letters == 2 else 4)
            for one, other in itertools.product(machine, repeat=2):
                same = all(machine.step(one, text)[0] == machine.step(other, text)[0] for text in texts)
                self.assertIs(are_alike(machine, one, machine, other), same)

    def test_states_of_two_machines(self):
        for machine in machines_by_chance(2):
            other = machine.renamed({name: "z" + name[:7] for name in machine})
            for one, two in itertools.product(machine, repeat=2):
                told = are_alike(machine, one, machine, two)
                self.assertIs(are_alike(machine, one, other, "z" + two[:7]), told)
                self.assertIs(are_alike(other, "z" + one[:7], machine, two), told)
        self.assertIs(are_alike(ODD, "e", GRAY, "e"), True)
        self.assertIs(are_alike(ODD, "a", GRAY, "a"), False)
        self.assertIs(are_alike(LAMP, "a", LAMP, "b"), False)


class Papers(Case):

    def pairs_of_states(self):
        """Pairs of machines with as many letters, with a state of each."""
        machines = [*machines_by_chance(4, 25), ODD, GRAY, FOLDED, LAMP, TWICE, doubled(GRAY), HANOI, doubled(HANOI)]
        for one, other in itertools.product(machines, repeat=2):
            if one.letters == other.letters:
                for one_state in one.states[:2]:
                    for other_state in other.states[-2:]:
                        yield one, one_state, other, other_state

    def test_papers_that_are_told(self):
        forms = set()
        for given in self.pairs_of_states():
            one, one_state, other, other_state = given
            paper = alike_paper(*given)
            self.assertIs(type(paper), tuple)
            form, shown = paper
            forms.add(form)
            self.assertEqual(form == "alike", are_alike(*given))
            if form == "alike":
                self.assertTrue(model_is_table(*given, shown))
            else:
                self.assertEqual(form, "apart")
                self.assertTrue(is_text(one.letters, shown))
                self.assertNotEqual(one.step(one_state, shown)[0], other.step(other_state, shown)[0])
            self.assertIs(is_alike_paper(*given, paper), True)
            self.assertEqual(alike_paper(*given), paper)
        self.assertEqual(forms, {"alike", "apart"})

    def test_just_one_of_the_two_forms(self):
        for given in itertools.islice(self.pairs_of_states(), 0, None, 7):
            one, _, other, _ = given
            alike = are_alike(*given)
            for text in short_texts(one.letters, 4):
                apart = one.step(given[1], text)[0] != other.step(given[3], text)[0]
                self.assertIs(is_alike_paper(*given, ("apart", text)), apart)
                self.assertFalse(alike and apart)

    def test_all_tables_of_small_machines(self):
        for one, other in ((ODD, ODD), (TWICE, ODD), (LAMP, LAMP), (ODD, FOLDED), (LAMP, ODD)):
            pairs = [(a, b) for a in one for b in other]
            for many in range(len(pairs) + 1):
                for table in itertools.combinations(pairs, many):
                    for one_state, other_state in pairs:
                        given = (one, one_state, other, other_state)
                        told = model_is_table(*given, table)
                        self.assertIs(is_alike_paper(*given, ("alike", table)), told)
                        self.assertTrue(not told or are_alike(*given))

    def test_tables_with_more_pairs_than_needed(self):
        table = (("a", "a"), ("e", "e"), ("x", "a"), ("y", "e"))
        self.assertIs(is_alike_paper(TWICE, "a", ODD, "a", ("alike", table)), True)
        self.assertIs(is_alike_paper(TWICE, "a", ODD, "a", ("alike", table[:2])), True)
        self.assertIs(is_alike_paper(TWICE, "y", ODD, "e", ("alike", table)), True)
        self.assertIs(is_alike_paper(TWICE, "x", ODD, "a", ("alike", table[:2])), False)
        self.assertIs(is_alike_paper(TWICE, "a", ODD, "a", ("alike", table[:3])), False)
        self.assertIs(is_alike_paper(TWICE, "x", ODD, "a", ("alike", table[2:])), True)
        self.assertIs(is_alike_paper(TWICE, "x", ODD, "a", ("alike", table[2:3])), False)

    def test_values_near_papers(self):
        given = (TWICE, "a", ODD, "a")
        right = (("a", "a"), ("e", "e"))
        for value in [
            ("alike", list(right)), ["alike", right], ("alike", right, 0), ("alike",), ("alike", right[::-1]),
            ("alike", right + right[-1:]), ("alike", (right[0], right[0], right[1])), ("alike", ()), ("alike", right[:1]),
            ("alike", right[1:]), ("alike", (list(right[0]), right[1])), ("alike", (("a", "a", "a"), ("e", "e"))),
            ("alike", (("a", "a"), ("e", "e"), ("q", "e"))), ("alike", (("a", "a"), ("e", "e"), ("e", "q"))),
            ("alike", (("a", "a"), ("a", "e"), ("e", "e"))), ("alike", dict(right)), ("alike", "aa"), ("apart", right),
            ("Alike", right), ("", right), (True, right), (None, right), (right, "alike"), ("alike", None),
            ("alike", (("a", "a"), "ee")), ("alike", (("a", "a"), ("e",))), ("alike", (("a", True), ("e", "e"))),
            ("apart", "1"), ("apart", ""), ("apart", "0" * 200), "alike", right, ("alike", *right),
        ]:
            self.assertIs(is_alike_paper(*given, value), False, value)
        self.assertIs(is_alike_paper(*given, ("alike", right)), True)

    def test_values_near_texts(self):
        given = (ODD, "a", GRAY, "a")
        for text in ("10", "11", "100", "10" * 100, "1" * 200):
            self.assertIs(is_alike_paper(*given, ("apart", text)), True)
        for value in [
            ("apart", "1"), ("apart", ""), ("apart", "01"), ("apart", "12"), ("apart", "1" * 201), ("apart", 11),
            ("apart", ("1", "1")), ("apart", ["11"]), ("apart", None), ("apart", "11\n"), ("apart",), ("apart", "11", 0),
            ["apart", "11"], {"apart": "11"}, "11", ("alike", "11"), ("Apart", "11"), ("11", "apart"), (None, "11"),
        ]:
            self.assertIs(is_alike_paper(*given, value), False, value)

    def test_all_kinds(self):
        for value in VALUES:
            if value != ("alike", (("a", "a"),)):
                self.assertIs(is_alike_paper(ODD, "a", ODD, "a", value), False)
                self.assertIs(is_alike_paper(ODD, "a", ODD, "e", value), value == ("apart", "0"))
            for form in ("alike", "apart", value):
                told = type(value) is str and is_text(2, value) and form == "apart" and value != ""
                self.assertIs(is_alike_paper(ODD, "a", ODD, "e", (form, value)), told)
        self.assertIs(is_alike_paper(ODD, "a", ODD, "a", ("alike", (("a", "a"),))), False)


class Groups(Case):

    def test_groups_in_order(self):
        for machine in [*machines_by_chance(6, 60, 6), ODD, GRAY, HANOI, LAMP, TWICE, doubled(HANOI)]:
            groups = alike_states(machine)
            self.assertEqual(sorted(name for group in groups for name in group), list(machine.states))
            self.assertEqual(list(groups), sorted(groups))
            for group in groups:
                self.assertIs(type(group), tuple)
                self.assertEqual(list(group), sorted(group))
            place = {name: at for at, group in enumerate(groups) for name in group}
            for one, other in itertools.product(machine, repeat=2):
                self.assertIs(place[one] == place[other], are_alike(machine, one, machine, other))

    def test_some_groups(self):
        self.assertEqual(alike_states(TWICE), (("a", "x"), ("e", "y")))
        self.assertEqual(alike_states(HANOI), (("a",), ("b",), ("c",), ("e",)))
        self.assertEqual(alike_states(HANOI.with_state("d", (0, 1, 2), ("e", "d", "d"))), (("a",), ("b",), ("c",), ("d", "e")))

    def test_merged(self):
        for machine in [*machines_by_chance(7, 60, 6), ODD, TWICE, doubled(HANOI), doubled(GRAY)]:
            told = merged(machine)
            groups = alike_states(machine)
            self.assertEqual((told.letters, told.states), (machine.letters, tuple(group[0] for group in groups)))
            first = {name: group[0] for group in groups for name in group}
            for name in told:
                self.assertEqual(told.turn(name), machine.turn(name))
                self.assertEqual(told.nexts(name), tuple(first[behind] for behind in machine.nexts(name)))
            for name in machine:
                self.assertTrue(move_of(told, first[name]) == move_of(machine, name))
            self.assertTrue(merged(told) == told)

    def test_nothing_to_merge(self):
        for machine in (ODD, GRAY, HANOI, FOLDED, LAMP):
            self.assertTrue(merged(machine) == machine)
        self.assertTrue(merged(TWICE) == ODD)
        self.assertTrue(merged(doubled(GRAY)) == GRAY)

    def test_no_machines(self):
        for value in NO_MACHINES:
            self.refused(InvalidMachine, alike_states, value)
            self.refused(InvalidMachine, merged, value)


class MachinesOfMoves(Case):

    def test_rows_become_states(self):
        names = ("q", "a", "zz", "abcdefgh", "b", "m", "x", "c")
        for letters in (2, 3, 4):
            for move in random_moves(letters + 8, letters, 12, 8):
                machine = machine_of(move, names[:len(move)])
                self.assertEqual((machine.letters, len(machine)), (letters, len(move)))
                for name, (turn, nexts) in zip(names, move.rows):
                    self.assertEqual(machine.turn(name), turn)
                    self.assertEqual(machine.nexts(name), tuple(names[at] for at in nexts))
                self.assertTrue(move_of(machine, "q") == move)
                self.assertEqual(model_least([(turn, nexts) for turn, nexts in move.rows]), move.rows)

    def test_one_and_eight(self):
        self.assertEqual(str(machine_of(idle(3), ("one",))), "machine of 3 letters: one 012 one one one")
        self.assertEqual(len(machine_of(ring_move(8), tuple("hgfedcba"))), 8)
        self.refused(InvalidOperation, machine_of, ring_move(9), tuple("hgfedcbai"))
        self.refused(InvalidOperation, machine_of, ring_move(9), tuple("hgfedcba"))

    def test_wrong_names(self):
        move = move_of(ODD, "a")
        for value in VALUES:
            if value != ("a", "e"):
                self.refused(InvalidOperation, machine_of, move, value)
            if not is_name(value):
                self.refused(InvalidOperation, machine_of, move, ("a", value))
                self.refused(InvalidOperation, machine_of, move, (value, "a"))
        for value in [("a", "a"), ("a", "e", "a"), ("a",), ("a", "b", "c"), ["a", "b"], "ab", {"a": 0, "b": 1}, (), ("a", "B"), ("a", "b ")]:
            self.refused(InvalidOperation, machine_of, move, value)
        self.assertEqual(len(machine_of(move, ("a", "e"))), 2)

    def test_moves_come_first(self):
        for value in NO_MOVES:
            self.refused(InvalidMove, machine_of, value, ("a",))
            self.refused(InvalidMove, machine_of, value, None)


class Refused(Case):

    CALLS = (are_alike, alike_paper, lambda *given: is_alike_paper(*given, None), lambda *given: is_alike_paper(*given, ()))

    def test_in_the_order_of_the_parameters(self):
        wrong = [value for value in VALUES if not isinstance(value, Machine) and value not in ("a", "e", "b")]
        for call in self.CALLS:
            for value in wrong:
                self.refused(InvalidMachine, call, value, "x", value, "x")
                self.refused_with(UnknownName(value), call, ODD, value, value, value)
                self.refused_with(UnknownName(value), call, ODD, value, HANOI, "b")
                self.refused(InvalidMachine, call, ODD, "a", value, value)
                self.refused(InvalidMachine, call, ODD, "a", HANOI, value)
                self.refused_with(UnknownName(value), call, ODD, "a", GRAY, value)

    def test_unlike_numbers_of_letters(self):
        for call in self.CALLS:
            self.refused(InvalidMachine, call, ODD, "a", HANOI, "a")
            self.refused(InvalidMachine, call, HANOI, "a", ODD, "a")
            self.refused_with(UnknownName("b"), call, ODD, "b", HANOI, "a")

    def test_states_of_the_other_machine(self):
        for call in self.CALLS:
            self.refused_with(UnknownName("b"), call, ODD, "a", ODD, "b")
            self.refused_with(UnknownName("b"), call, ODD, "b", GRAY, "b")
            self.refused_with(UnknownName("c"), call, GRAY, "b", GRAY, "c")

    def test_nothing_is_changed(self):
        told = [str(machine) for machine in (TWICE, ODD, HANOI)]
        merged(TWICE), alike_states(HANOI), alike_paper(TWICE, "a", ODD, "a"), are_alike(ODD, "a", TWICE, "x")
        self.assertEqual([str(machine) for machine in (TWICE, ODD, HANOI)], told)
        for text in random_texts(1, 2, (3, 9)):
            self.assertEqual(TWICE.step("x", text)[0], ODD.step("a", text)[0])
