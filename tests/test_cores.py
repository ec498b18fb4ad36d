"""The core of quiet machines: its moves, its depths, where words settle, and papers that show it."""

import itertools
import random

from support import (
    BIG, FLIP, FOLDED, GRAY, HANOI, LAMP, LONG, MORE, ODD, SIXTY, STAY, SWAP, VALUES, WIDE, Case, all_texts, model_settled,
    model_table, quiet_machines, random_texts, rest_forms, short_texts,
    told_machine, wide_word,
)
from textmovers.base.letters import is_text
from textmovers.core.cores import (
    core, core_depth, core_paper, core_rows, is_core_move, is_core_paper, meet_depth, rest_place, settled,
)
from textmovers.errors import InvalidMachine, InvalidMove, InvalidText, InvalidWord, Loud, TooMany
from textmovers.machine.known import counter
from textmovers.machine.machines import Machine
from textmovers.move.alike import merged
from textmovers.move.moves import Move, first_turned, idle, move_of
from textmovers.move.tables import least_rows, product_rows
from textmovers.move.words import is_word, passed, undone_word, word_move

KNOWN = [ODD, GRAY, HANOI, FOLDED, FLIP, counter(3), counter(4)]
STILL = Machine(2, {"e": (STAY, ("e", "e"))})
# A state that only waits, a circle of two, and states that are alike.
OTHERS = [
    STILL,
    told_machine("machine of 2 letters: a 10 e b, b 01 e c, c 10 a e, e 01 e e"),
    told_machine("machine of 3 letters: a 120 e e b, b 012 c e e, c 021 e a e, d 120 e e b, e 012 e e e"),
]
MACHINES = [*KNOWN, *OTHERS, *quiet_machines(5, 25, sizes=(2, 3, 4))]


def few(machine):
    """Whether the core can be told, and is not too great for plain models."""
    try:
        return len(core(machine)) <= 13
    except TooMany:
        return False


SMALL = [machine for machine in MACHINES if few(machine)]


def steps(machine):
    """The moves of all steps."""
    return [one for state in machine for one in (move_of(machine, state), ~move_of(machine, state))]


def product_form(one, other):
    return least_rows(product_rows(one.rows, other.rows), 10 ** 9)


class Cores(Case):

    def test_it_is_the_core(self):
        # Just one set has all this.
        self.assertGreater(len(SMALL), 25)
        self.assertGreater(len({len(core(machine)) for machine in SMALL}), 5)
        for machine in SMALL:
            moves = core(machine)
            forms = {move.rows for move in moves}
            self.assertIs(type(moves), tuple)
            self.assertEqual(len(forms), len(moves))
            self.assertIn(idle(machine.letters).rows, forms)
            for move in moves:
                self.assertLessEqual({rest.rows for rest in move.rests()}, forms)
                self.assertIn((~move).rows, forms)
                self.assertTrue(any(
                    one.rest(str(letter)) == move for one in moves for letter in range(machine.letters)
                ))
                for step in steps(machine):
                    self.assertLess(model_settled(product_form(move, step), forms), 60)

    def test_ascending_and_the_idle_move_first(self):
        for machine in [*MACHINES, SIXTY]:
            if machine in SMALL or machine == SIXTY:
                moves = core(machine)
                self.assertTrue(moves[0].is_idle)
                self.assertTrue(all(one < other for one, other in zip(moves, moves[1:])))

    def test_rests_behind_long_texts(self):
        for machine in (ODD, GRAY, HANOI, FOLDED):
            forms = {move.rows for move in core(machine)}
            for word in itertools.product(steps(machine), repeat=2):
                both = word[0] * word[1]
                self.assertLessEqual({both.rest(text).rows for text in all_texts(machine.letters, 5)}, forms)

    def test_rows(self):
        for machine in [*SMALL, SIXTY]:
            moves = core(machine)
            told = [(move.first_turn, tuple(
                [one.rows for one in moves].index(move.rest(str(letter)).rows) for letter in range(machine.letters)
            )) for move in moves]
            self.assertEqual(core_rows(machine), tuple(told))

    def test_which_moves_are_in_it(self):
        for machine in SMALL:
            moves = core(machine)
            for move in moves:
                self.assertIs(is_core_move(machine, move), True)
            forms = {move.rows for move in moves}
            for one, other in itertools.product(steps(machine)[:6], repeat=2):
                self.assertIs(is_core_move(machine, one * other), (one * other).rows in forms)
            turned = first_turned(machine.letters, tuple(range(machine.letters))[::-1])
            self.assertIs(is_core_move(machine, turned), turned.rows in forms)

    def test_the_same_for_undone_and_merged_machines(self):
        for machine in [*SMALL, SIXTY]:
            forms = [move.rows for move in core(machine)]
            self.assertEqual([move.rows for move in core(~machine)], forms)
            self.assertEqual([move.rows for move in core(merged(machine))], forms)

    def test_shallow_machines_have_the_idle_move_alone(self):
        for machine in (FLIP, STILL, told_machine("machine of 4 letters: a 1302 b b e e, b 0321 e e e e, e 0123 e e e e")):
            self.assertEqual([move.rows for move in core(machine)], [idle(machine.letters).rows])
            self.assertEqual(core_rows(machine), ((tuple(range(machine.letters)), (0,) * machine.letters),))

    def test_not_all_states_are_in_it(self):
        self.assertIs(is_core_move(FLIP, move_of(FLIP, "a")), False)
        self.assertIs(is_core_move(ODD, move_of(GRAY, "a")), False)
        # Machines with equal cores can have unlike moves.
        other = Machine(2, {"b": (SWAP, ("a", "e")), "a": (SWAP, ("e", "a")), "e": (STAY, ("e", "e"))})
        self.assertEqual([move.rows for move in core(other)], [move.rows for move in core(ODD)])

    def test_sixty_moves_and_sixty_one(self):
        self.assertEqual(len(core(SIXTY)), 60)
        self.assertEqual(len(core_rows(SIXTY)), 60)
        for call in (core, core_rows, core_paper, core_depth, meet_depth):
            self.refused_with(TooMany(60), call, MORE)
        self.refused_with(TooMany(60), is_core_move, MORE, idle(3))
        self.refused_with(TooMany(60), is_core_paper, MORE, None)
        self.refused_with(TooMany(60), settled, MORE, ())
        self.refused_with(TooMany(60), rest_place, MORE, (), "")

    def test_great_finite_cores(self):
        for machine in quiet_machines(9, 60, sizes=(5, 6, 7, 8), letters=(3, 4)):
            try:
                moves = core(machine)
            except TooMany as error:
                self.assertEqual(error.limit, 60)
            else:
                forms = {move.rows for move in moves}
                self.assertLessEqual(len(forms), 60)
                for move in moves:
                    self.assertIn((~move).rows, forms)
                    self.assertLessEqual({rest.rows for rest in move.rests()}, forms)


class Depths(Case):

    def test_core_depth(self):
        for machine in SMALL:
            moves = core(machine)
            forms = {move.rows for move in moves}
            told = max(model_settled(product_form(move, step), forms) for move in moves for step in steps(machine))
            self.assertEqual(core_depth(machine), told)

    def test_meet_depth(self):
        for machine in SMALL:
            moves = core(machine)
            forms = {move.rows for move in moves}
            told = max(model_settled(product_form(one, other), forms) for one in moves for other in moves)
            self.assertEqual(meet_depth(machine), told)

    def test_all_products_in_the_core(self):
        # Its core has the moves of all words.
        for machine in (STILL, told_machine("machine of 2 letters: b 01 b a, a 10 e e, e 01 e e").part("e")):
            self.assertEqual((core_depth(machine), meet_depth(machine)), (0, 0))
        once = told_machine("machine of 2 letters: a 01 a b, b 10 b e, e 01 e e")
        self.assertEqual([core_depth(FLIP), meet_depth(FLIP)], [1, 0])
        self.refused_with(Loud("a"), core_depth, once)

    def test_words_rest_in_the_core_behind_their_steps_times_the_depth(self):
        chance = random.Random(6)
        for machine in SMALL:
            depth = core_depth(machine)
            for _ in range(6):
                word = tuple((chance.choice(machine.states), chance.choice((1, -1, 2))) for _ in range(4))
                many = sum(abs(number) for _, number in word)
                self.assertLessEqual(settled(machine, word), many * depth)

    def test_at_the_bound(self):
        self.assertEqual((core_depth(SIXTY), meet_depth(SIXTY)), (core_depth(~SIXTY), meet_depth(~SIXTY)))
        self.assertGreater(meet_depth(SIXTY), 0)


class Words(Case):

    def words(self, chance, machine, many, most):
        """Words by chance of at most so many pairs."""
        for _ in range(many):
            yield tuple((chance.choice(machine.states), chance.choice((1, -1, 2, -3, 1)))
                        for _ in range(chance.randint(0, most)))

    def test_settled_against_step_by_step(self):
        chance = random.Random(1)
        met = set()
        for machine in SMALL:
            forms = {move.rows for move in core(machine)}
            for word in self.words(chance, machine, 12, 8):
                told = model_settled(model_table(machine, word), forms)
                met.add(told)
                self.assertEqual(settled(machine, word), told)
                self.assertEqual(settled(machine, undone_word(machine, word)), told)
        self.assertGreater(len(met), 4)

    def test_places_against_step_by_step(self):
        chance = random.Random(2)
        met = set()
        for machine in SMALL:
            forms = [move.rows for move in core(machine)]
            for word in self.words(chance, machine, 5, 6):
                rows = model_table(machine, word)
                rests = rest_forms(rows)
                for text in random_texts(chance.random(), machine.letters, (0, 1, 2, 3, 4, 8, 40)):
                    place = 0
                    for sign in text:
                        place = rows[place][1][int(sign)]
                    told = forms.index(rests[place]) if rests[place] in forms else None
                    met.add(told)
                    self.assertEqual(rest_place(machine, word, text), told)
        self.assertLessEqual({None, 0, 1, 2}, met)

    def test_moves_of_more_than_sixty_rests(self):
        forms = [move.rows for move in core(WIDE)]
        for seed in range(6):
            word = wide_word(seed, 16, "bcd")
            rows = model_table(WIDE, word)
            if len(rows) > 60:
                self.refused_with(TooMany(60), word_move, WIDE, word)
            self.assertEqual(settled(WIDE, word), model_settled(rows, forms))
            rests = rest_forms(rows)
            for text in random_texts(seed, 4, (0, 1, 2, 3, 5, 6, 200)):
                place = 0
                for sign in text:
                    place = rows[place][1][int(sign)]
                told = forms.index(rests[place]) if rests[place] in forms else None
                self.assertEqual(rest_place(WIDE, word, text), told)
            back = (*word, *undone_word(WIDE, word))
            self.assertEqual((settled(WIDE, back), rest_place(WIDE, back, "")), (0, 0))

    def test_two_hundred_steps(self):
        self.assertEqual([settled(ODD, (("a", many),)) for many in (1, 2, 3, 4, 5, 128, 129, 200, -200)],
                         [0, 1, 2, 2, 3, 7, 8, 8, 8])
        self.assertEqual(settled(ODD, (("a", 100), ("e", 3), ("a", -97))), 2)
        chance = random.Random(3)
        for machine in (HANOI, FOLDED, SIXTY, GRAY, WIDE):
            word = tuple((chance.choice(machine.states), chance.choice((1, -1))) for _ in range(200))
            length = settled(machine, word)
            places = [rest_place(machine, word, text) for text in random_texts(4, machine.letters, (length, 100, 200))]
            self.assertNotIn(None, places)
            if 0 < length < 6:
                shorter = all_texts(machine.letters, length - 1)
                self.assertIn(None, [rest_place(machine, word, text) for text in shorter])

    def test_the_rest_is_that_of_the_word_that_is_left(self):
        for word in ((("a", 2), ("c", -1), ("b", 3)), (("b", 1), ("a", -1))):
            for text in short_texts(3, 3):
                left, _ = passed(HANOI, word, text)
                place = rest_place(HANOI, word, text)
                self.assertIs(place is None, not is_core_move(HANOI, word_move(HANOI, left)))
                if place is not None:
                    self.assertTrue(core(HANOI)[place] == word_move(HANOI, left))

    def test_the_empty_word(self):
        for machine in [*SMALL, SIXTY]:
            self.assertEqual(settled(machine, ()), 0)
            self.assertEqual(rest_place(machine, (), ""), 0)
            self.assertEqual(rest_place(machine, (), "0" * 200), 0)


class Papers(Case):

    def is_model_paper(self, machine, value):
        """What the document says of a paper of the core."""
        if type(value) is not tuple or len(value) != 3 or value[0] != "core" or type(value[1]) is not tuple:
            return False
        _, words, many = value
        if type(many) is not int or many < core_depth(machine):
            return False
        forms = []
        for word in words:
            if not is_word(machine, word):
                return False
            try:
                forms.append(word_move(machine, word).rows)
            except TooMany:
                return False
        return sorted(forms) == sorted(move.rows for move in core(machine))

    def test_papers_that_are_told(self):
        for machine in [*SMALL, SIXTY]:
            paper = core_paper(machine)
            self.assertTrue(self.is_model_paper(machine, paper))
            self.assertIs(is_core_paper(machine, paper), True)
            self.assertEqual(core_paper(machine), paper)
            for word in paper[1]:
                self.assertLessEqual(sum(abs(number) for _, number in word), 61)

    def test_in_other_orders(self):
        for machine in (ODD, GRAY, HANOI):
            _, words, many = core_paper(machine)
            for order in itertools.permutations(words):
                self.assertIs(is_core_paper(machine, ("core", order, many)), True)
        chance = random.Random(1)
        for machine in (FOLDED, SIXTY):
            _, words, many = core_paper(machine)
            self.assertIs(is_core_paper(machine, ("core", tuple(chance.sample(words, len(words))), many)), True)
            self.assertIs(is_core_paper(machine, ("core", words[::-1], many)), True)

    def test_greater_numbers(self):
        for machine in SMALL:
            _, words, many = core_paper(machine)
            depth = core_depth(machine)
            for number in (depth, depth + 1, BIG, BIG * BIG, 10 ** 60):
                self.assertIs(is_core_paper(machine, ("core", words, number)), True)
            for number in (depth - 1, -1, -BIG, None, True, False, str(depth), (depth,)):
                self.assertIs(is_core_paper(machine, ("core", words, number)), False)

    def test_values_near_papers(self):
        chance = random.Random(7)
        told = {True: 0, False: 0}
        for machine in [*SMALL[:6], *SMALL[10:14]]:
            _, words, many = core_paper(machine)
            for at, word in enumerate(words):
                state = chance.choice(machine.states)
                for other in [(), (*word, (state, 1)), (*word, (state, 1), (state, -1)), word[:-1], word[::-1], word * 2,
                              undone_word(machine, word), ((state, 3), (state, -3), *word), list(word), None, "a",
                              (*word, (state, 0)), (*word, (state, True)), (*word, ("zz", 1)), ((state, 1),),
                              (*word, (state, 201)), ((state, 99), *word, (state, -99)), (*word, (state, 1, 1))]:
                    for value in [("core", (*words[:at], other, *words[at + 1:]), many),
                                  ("core", (*words, other), many)]:
                        judged = is_core_paper(machine, value)
                        self.assertIs(judged, self.is_model_paper(machine, value), (str(machine), value))
                        told[judged] += 1
                self.assertIs(is_core_paper(machine, ("core", words[:at] + words[at + 1:], many)), False)
            paper = ("core", words, many)
            for value in [list(paper), paper[:2], (*paper, many), ("Core", words, many), (words, many), words, "core",
                          ("core", list(words), many), ("core", many, words), ("core", {}, many), (None, words, many)]:
                self.assertIs(is_core_paper(machine, value), False)
        self.assertGreater(min(told.values()), 100)

    def test_beginnings_of_sixty_rests_and_of_more(self):
        # The words lead back, so their moves are idle; but on the way they can have too many rests.
        _, words, many = core_paper(WIDE)
        self.assertEqual(words[0], ())
        met = set()
        for seed in (0, 4, 5, 7, 14, 16, 19, 25, 30, 36):
            for length in range(5, 18):
                word = wide_word(seed, length, "bcd")
                most = max(len(model_table(WIDE, word[:at])) for at in range(length + 1))
                if most < 58:
                    continue
                back = (*word, *undone_word(WIDE, word))
                self.assertEqual(rest_place(WIDE, back, ""), 0)
                self.assertIs(is_core_paper(WIDE, ("core", (back, *words[1:]), many)), most <= 60)
                met.add(most)
                if most > 61:
                    break
        self.assertLessEqual({60, 61}, met)

    def test_all_kinds(self):
        for value in VALUES:
            for machine in (ODD, HANOI):
                self.assertIs(is_core_paper(machine, value), False)
                self.assertIs(is_core_paper(machine, ("core", value, 5)), False)
                self.assertIs(is_core_paper(machine, ("core", (value,), 5)), False)
        for value in VALUES:
            told = type(value) is int and value >= 1
            self.assertIs(is_core_paper(ODD, ("core", core_paper(ODD)[1], value)), told)

    def test_two_hundred_steps(self):
        words = ((("a", 100), ("a", -100)), (("e", 199), ("a", 1)), (("a", -1), ("e", -199)))
        self.assertIs(is_core_paper(ODD, ("core", words, 1)), True)
        words = ((("a", 100), ("a", -100)), (("e", 200), ("a", 1)), (("a", -1), ("e", -199)))
        self.assertIs(is_core_paper(ODD, ("core", words, 1)), False)
        _, words, many = core_paper(SIXTY)
        long = tuple((*word, ("a", 60), ("a", -60)) for word in words)
        self.assertEqual(is_core_paper(SIXTY, ("core", long, many)), self.is_model_paper(SIXTY, ("core", long, many)))


class Refused(Case):

    def calls(self):
        """All functions with arguments that are right for ODD, each with the place of its machine first."""
        return [(core,), (core_rows,), (core_paper,), (core_depth,), (meet_depth,), (is_core_move, idle(2)),
                (is_core_paper, None), (settled, ()), (rest_place, (), "")]

    def test_machines_come_first(self):
        for call, *others in self.calls():
            for value in VALUES:
                if not isinstance(value, Machine):
                    self.refused(InvalidMachine, call, value, *others)
                    self.refused(InvalidMachine, call, value, *[value for _ in others])

    def test_loud_machines(self):
        for call, *others in self.calls():
            self.refused_with(Loud("a"), call, LAMP, *others)
            self.refused_with(Loud("c"), call, LONG, *others)
            self.refused_with(Loud("b"), call, LAMP.renamed({"a": "z"}), *others)

    def test_loud_ahead_of_too_many(self):
        both = MORE.with_state("z", (1, 2, 0), ("z", "z", "a"))
        for call, *others in self.calls():
            others = [idle(3) if isinstance(other, Move) else other for other in others]
            self.refused_with(Loud("z"), call, both, *others)
            self.refused_with(TooMany(60), call, MORE, *others)

    def test_wrong_moves(self):
        for machine in (ODD, LAMP, LONG):
            for value in [*VALUES, idle(3), idle(4)]:
                if not isinstance(value, Move) or value.letters != 2:
                    self.refused(InvalidMove, is_core_move, machine, value)
        self.refused(InvalidMove, is_core_move, MORE, idle(2))
        self.refused_with(TooMany(60), is_core_move, MORE, idle(3))

    def test_wrong_words_and_texts(self):
        for value in VALUES:
            if not is_word(ODD, value):
                for machine in (ODD, LAMP):
                    self.refused(InvalidWord, settled, machine, value)
                    self.refused(InvalidWord, rest_place, machine, value, "0")
                    self.refused(InvalidWord, rest_place, machine, value, value)
                self.refused(InvalidWord, settled, MORE, value)
            if not is_text(2, value):
                for machine in (ODD, LAMP):
                    self.refused(InvalidText, rest_place, machine, (("a", 1),), value)
        self.refused(InvalidText, rest_place, MORE, (), "3")
        self.refused(InvalidWord, settled, ODD, (("b", 1),))
        self.refused(InvalidWord, rest_place, ODD, (("a", 201),), "2")

    def test_nothing_is_changed(self):
        told = [str(machine) for machine in (ODD, HANOI, SIXTY, MORE)]
        core_paper(HANOI), meet_depth(ODD), settled(HANOI, (("a", 3),))
        self.refused_with(TooMany(60), core, MORE)
        self.assertEqual([str(machine) for machine in (ODD, HANOI, SIXTY, MORE)], told)
