"""Texts of one length: pieces, level turns, and how many there are."""

import itertools
import random

from support import (
    BIG, FLIP, FOLDED, GRAY, HANOI, LAMP, LONG, MORE, ODD, SIXTY, VALUES, WIDE, Case, all_texts, quiet_machines,
    random_moves, random_tables, told_machine,
)
from textmovers.base.letters import is_text
from textmovers.errors import InvalidMachine, InvalidMove, InvalidNumber, InvalidText, Loud, TooMany
from textmovers.level.levels import (
    is_level_turn, level_size, level_turn, parting_length, piece_number, piece_of, pieces,
)
from textmovers.machine.known import counter
from textmovers.machine.machines import Machine
from textmovers.move.moves import Move, idle, move_of
from textmovers.move.words import word_move

ADD = move_of(ODD, "a")
KNOWN = [ODD, GRAY, HANOI, FOLDED, FLIP, counter(3), counter(4)]
STILL = Machine(3, {"e": ((0, 1, 2), ("e", "e", "e"))})
QUIET = [*KNOWN, STILL, WIDE, *quiet_machines(51, 120, sizes=(2, 3, 4, 5, 6))]
# All texts of the lengths to 7 are one piece.
LATE = told_machine("machine of 2 letters: a 01 b e, b 01 e d, c 10 a e, d 10 e e, e 01 e e, g 01 c c, i 01 g e, k 01 e i")
# The greatest number of open texts is 24, at the length 4 and all greater ones.
JUST = told_machine("machine of 4 letters: a 0123 h b f h, b 0312 i h h h, f 2103 h b f i, g 2301 h h a b, h 0123 h h h h, "
                    "i 3021 h h h h, j 2301 h a h i")
# There are 25 of the length 4; and 25 of the length 3, at which the texts fall apart, and of the length 5, behind it.
OVER = told_machine("machine of 4 letters: b 2310 c c k i, c 0123 c c c c, e 1203 c g b c, f 3201 c c c c, g 3210 c e f c, "
                    "i 0123 c c f f, k 1320 i i c c")
OVER_AT = told_machine("machine of 4 letters: c 1320 f f c f, e 0123 f g k c, f 0123 f f f f, g 0123 c c c c, k 3201 g f g f")
OVER_BEHIND = told_machine("machine of 4 letters: a 1032 e g f c, b 0213 c f f c, c 0123 f f d f, d 0123 f f e f, "
                           "e 3021 f c f f, f 0123 f f f f, g 2103 c c b f")


def loud_machines():
    """Machines by chance, most of them loud."""
    return [Machine(letters, table) for letters, table in random_tables(6, 2)]


def most_of(letters):
    """A length of which all texts can be shown."""
    return {2: 8, 3: 5, 4: 4}[letters]


def model_pieces(machine, length):
    """The pieces, by all steps there and back, from each text on."""
    left, found = dict.fromkeys(all_texts(machine.letters, length)), []
    moves = [move_of(machine, state) for state in machine]
    steps = [*moves, *[~move for move in moves]]
    while left:
        piece = [next(iter(left))]
        met = set(piece)
        for text in piece:
            for step in steps:
                come = step(text)
                if come not in met:
                    met.add(come)
                    piece.append(come)
        found.append(tuple(sorted(piece)))
        left = {text: None for text in left if text not in met}
    return tuple(found)


def model_open(machine, length):
    """How many texts have a step behind which its rest is not idle."""
    moves = [move_of(machine, state) for state in machine]
    steps = [*moves, *[~move for move in moves]]
    return sum(any(not step.rest(text).is_idle for step in steps) for text in all_texts(machine.letters, length))


def closure(machine, length, most=3000):
    """All level turns, by products of those of the states, or None if they are too many."""
    steps = [level_turn(move_of(machine, state), length) for state in machine]
    order = [tuple(range(machine.letters ** length))]
    met = set(order)
    for turn in order:
        for step in steps:
            both = tuple(step[come] for come in turn)
            if both not in met:
                met.add(both)
                order.append(both)
        if len(order) > most:
            return None
    return met


class Turns(Case):

    def test_against_all_texts(self):
        for letters in (2, 3, 4):
            for move in [*random_moves(letters, letters), idle(letters)]:
                for length in range(5 if letters < 4 else 4):
                    every = all_texts(letters, length)
                    told = level_turn(move, length)
                    self.assertIs(type(told), tuple)
                    self.assertEqual([every[index] for index in told], [move(text) for text in every])

    def test_so_many_texts(self):
        for letters, length in ((2, 8), (3, 5), (4, 4)):
            told = level_turn(move_of(counter(letters), "a"), length)
            self.assertEqual(sorted(told), list(range(letters ** length)))
            for more in (length + 1, 100, 200):
                self.refused_with(TooMany(256), level_turn, idle(letters), more)
        self.assertEqual(level_turn(ADD, 0), (0,))

    def test_products_and_undone_moves(self):
        for one, other in itertools.product(random_moves(9, 3, 5, 4), repeat=2):
            first, second = level_turn(one, 3), level_turn(other, 3)
            self.assertEqual(level_turn(one * other, 3), tuple(second[come] for come in first))
            back = level_turn(~one, 3)
            self.assertEqual([back[come] for come in first], list(range(27)))


class Pieces(Case):

    def test_against_words_step_by_step(self):
        for machine in [*QUIET[:40], *loud_machines(), LAMP, LONG]:
            for length in range(most_of(machine.letters) - 1):
                told = model_pieces(machine, length)
                self.assertEqual(pieces(machine, length), told)
                for piece in told[:3]:
                    self.assertEqual(piece_of(machine, piece[-1]), piece)

    def test_ascending(self):
        for machine in QUIET[:30]:
            told = pieces(machine, 3)
            self.assertEqual(list(told), sorted(told))
            self.assertTrue(all(list(piece) == sorted(piece) for piece in told))
            self.assertEqual(sorted(text for piece in told for text in piece), all_texts(machine.letters, 3))

    def test_the_empty_text(self):
        for machine in (*KNOWN, LAMP, STILL):
            self.assertEqual(pieces(machine, 0), (("",),))
            self.assertEqual(piece_of(machine, ""), ("",))

    def test_so_many_texts(self):
        for machine, length in ((ODD, 8), (HANOI, 5), (counter(4), 4), (LAMP, 8)):
            self.assertEqual(sum(len(piece) for piece in pieces(machine, length)), machine.letters ** length)
            for more in (length + 1, 200):
                self.refused_with(TooMany(256), pieces, machine, more)
        self.assertEqual(len(piece_of(ODD, "01100110")), 256)
        self.refused_with(TooMany(256), piece_of, ODD, "011001100")
        self.refused_with(TooMany(256), piece_of, ODD, "0" * 200)
        self.refused_with(TooMany(256), piece_of, HANOI, "012" * 60)
        # A long text of a small piece.
        self.assertEqual(piece_of(FLIP, "01" * 100), ("01" * 100, "11" + "01" * 99))
        self.assertEqual(piece_of(STILL, "2" * 200), ("2" * 200,))
        self.assertEqual(len(piece_of(counter(4).with_state("f", (1, 0, 2, 3), ("e",) * 4).part("f"), "0" * 200)), 2)

    def test_beginnings_are_of_one_piece_too(self):
        for machine in [*QUIET[:40], LAMP]:
            for piece in pieces(machine, 4 if machine.letters < 4 else 3):
                for length in range(3):
                    shorter = piece_of(machine, piece[0][:length])
                    self.assertTrue(all(text[:length] in shorter for text in piece))


class Numbers(Case):

    def told_numbers(self, machine, most):
        """The number of pieces to a length, or the error that comes."""
        found = []
        for length in range(most + 1):
            try:
                found.append(piece_number(machine, length))
            except TooMany as error:
                self.assertEqual(error.limit, 24)
                found.append(None)
        return found

    def test_against_pieces(self):
        met = {True: 0, False: 0}
        for machine in QUIET:
            most = most_of(machine.letters)
            counts = [model_open(machine, length) for length in range(most + 1)]
            told = self.told_numbers(machine, most)
            for length in range(most + 1):
                small = max(counts[:length + 1]) <= 24
                met[small] += 1
                self.assertEqual(told[length], len(pieces(machine, length)) if small else None)
        self.assertGreater(met[True], 300)
        self.assertGreater(met[False], 0)

    def test_longer_texts(self):
        for machine in [machine for machine in QUIET if machine.letters == 2][:25] + [LATE]:
            for length in (10, 11):
                self.assertEqual(piece_number(machine, length), len(model_pieces(machine, length)))

    def test_pieces_by_steps_whose_rests_are_not_idle(self):
        for machine in (told_machine("machine of 3 letters: a 210 b b b, b 102 e e e, e 012 e e e"),
                        told_machine("machine of 4 letters: a 2301 b b b b, b 1032 c c e e, c 1023 e e e e, e 0123 e e e e"),
                        told_machine("machine of 4 letters: a 3210 b b c c, b 1032 e e e e, c 0213 b b b b, e 0123 e e e e")):
            for length in range(5):
                self.assertEqual(piece_number(machine, length), len(pieces(machine, length)))
        self.assertEqual(piece_number(told_machine("machine of 3 letters: a 210 b b b, b 102 e e e, e 012 e e e"), 1), 1)

    def test_never_falls(self):
        for machine in QUIET:
            told = [number for number in self.told_numbers(machine, 40) if number is not None]
            self.assertEqual(told, sorted(told))

    def test_to_two_hundred_letters(self):
        self.assertEqual([piece_number(machine, 200) for machine in (ODD, GRAY, HANOI, FOLDED, counter(4))], [1] * 5)
        self.assertEqual(piece_number(FLIP, 200), 2 ** 199)
        self.assertEqual(piece_number(STILL, 200), 3 ** 200)
        # Two letters are turned alike, and the others not at all.
        twin = told_machine("machine of 2 letters: a 10 b b, b 10 e e, e 01 e e")
        self.assertEqual([piece_number(twin, length) for length in (0, 1, 2, 3, 200)], [1, 1, 1, 2, 2 ** 198])
        alike = told_machine("machine of 4 letters: a 1032 e a e e, e 0123 e e e e")
        for length in range(5):
            self.assertEqual(piece_number(alike, length), len(pieces(alike, length)))
        self.assertEqual(piece_number(alike, 200), piece_number(~alike, 200))

    def test_parting(self):
        met = {}
        for machine in [*QUIET, LATE, JUST]:
            try:
                told = parting_length(machine)
            except TooMany as error:
                self.assertEqual(error.limit, 24)
                continue
            met[told] = met.get(told, 0) + 1
            if told is None:
                self.assertEqual(piece_number(machine, 200), 1)
            else:
                self.assertGreater(piece_number(machine, told), 1)
                self.assertEqual(piece_number(machine, told - 1), 1)
                if told <= most_of(machine.letters):
                    self.assertGreater(len(pieces(machine, told)), 1)
                    self.assertEqual(len(pieces(machine, told - 1)), 1)
        self.assertLessEqual({None, 1, 2, 3, 8}, set(met))
        self.assertEqual((parting_length(LATE), parting_length(STILL), parting_length(FLIP)), (8, 1, 2))

    def test_twenty_four_open_texts_and_more(self):
        self.assertEqual([model_open(JUST, length) for length in range(6)], [1, 4, 14, 22, 24, 24])
        self.assertEqual((piece_number(JUST, 200), parting_length(JUST)), (1, None))
        self.assertEqual([model_open(OVER, length) for length in range(5)], [1, 4, 13, 22, 25])
        self.assertEqual([piece_number(OVER, length) for length in range(4)], [1] * 4)
        for length in (4, 5, 200):
            self.refused_with(TooMany(24), piece_number, OVER, length)
        self.refused_with(TooMany(24), parting_length, OVER)

    def test_open_texts_up_to_the_told_length(self):
        self.assertEqual([model_open(OVER_AT, length) for length in range(4)], [1, 4, 16, 25])
        self.assertEqual([len(model_pieces(OVER_AT, length)) for length in range(4)], [1, 1, 1, 2])
        self.refused_with(TooMany(24), parting_length, OVER_AT)
        self.refused_with(TooMany(24), piece_number, OVER_AT, 3)
        self.assertEqual(piece_number(OVER_AT, 2), 1)
        self.assertEqual([model_open(OVER_BEHIND, length) for length in range(6)], [1, 4, 12, 18, 22, 25])
        self.assertEqual(parting_length(OVER_BEHIND), 4)
        self.assertEqual([piece_number(OVER_BEHIND, length) for length in (3, 4)], [1, 2])
        self.refused_with(TooMany(24), piece_number, OVER_BEHIND, 5)

    def test_cores_that_cannot_be_told(self):
        # The number of pieces does not ask for the core.
        for machine in (MORE, SIXTY):
            for length in range(4):
                self.assertEqual(piece_number(machine, length), len(pieces(machine, length)))

    def test_many_letters_at_once(self):
        # All four letters go on and on, but each state only to the next one.
        wide = told_machine("machine of 4 letters: a 1230 b b b b, b 1230 c c c c, c 1230 d d d d, d 1230 e e e e, e 0123 e e e e")
        self.assertEqual([piece_number(wide, length) for length in range(3)], [1, 1, 1])
        self.refused_with(TooMany(24), piece_number, wide, 3)
        self.refused_with(TooMany(24), parting_length, wide)


class Groups(Case):

    def machines(self):
        return [*KNOWN, STILL, LAMP, LONG, *QUIET[8:30], *loud_machines()]

    def test_against_all_products(self):
        chance = random.Random(1)
        sizes = set()
        for machine in self.machines():
            for length in range({2: 4, 3: 3, 4: 2}[machine.letters]):
                every = closure(machine, length)
                if every is None:
                    self.assertGreater(level_size(machine, length), 3000)
                    continue
                sizes.add(len(every))
                self.assertEqual(level_size(machine, length), len(every))
                for turn in chance.sample(sorted(every), min(10, len(every))):
                    self.assertIs(is_level_turn(machine, length, turn), True)
                many = machine.letters ** length
                for _ in range(10):
                    turn = tuple(chance.sample(range(many), many))
                    self.assertIs(is_level_turn(machine, length, turn), turn in every)
        self.assertGreater(len(sizes), 12)

    def test_all_turns_of_two_letters(self):
        for machine in (ODD, GRAY, LAMP, FOLDED, FLIP):
            every = closure(machine, 2)
            for turn in itertools.permutations(range(4)):
                self.assertIs(is_level_turn(machine, 2, turn), turn in every)

    def test_great_ones(self):
        self.assertEqual([level_size(ODD, length) for length in range(6)], [1, 2, 4, 8, 16, 32])
        self.assertEqual([level_size(HANOI, length) for length in range(3)], [1, 6, 648])
        # All turns of a tree of five letters, and of three.
        full = told_machine("machine of 2 letters: a 10 e e, b 01 a e, c 01 b e, d 01 c e, f 01 d e, e 01 e e")
        self.assertEqual([level_size(full, length) for length in range(6)], [2 ** (2 ** length - 1) for length in range(6)])
        whole = told_machine("machine of 3 letters: a 120 e e e, b 102 e e e, c 012 a e e, d 012 b e e, f 012 c e e, "
                             "g 012 d e e, e 012 e e e")
        self.assertEqual([level_size(whole, length) for length in range(4)], [1, 6, 6 ** 4, 6 ** 13])
        four = told_machine("machine of 4 letters: a 1230 e e e e, b 1023 e e e e, c 0123 a e e e, d 0123 b e e e, e 0123 e e e e")
        self.assertEqual([level_size(four, length) for length in range(3)], [1, 24, 24 ** 5])
        chance = random.Random(2)
        for _ in range(20):
            word = tuple((chance.choice(whole.states), chance.choice((1, -1))) for _ in range(9))
            self.assertIs(is_level_turn(whole, 3, level_turn(word_move(whole, word), 3)), True)
        self.assertIs(is_level_turn(whole, 3, (1, 0, 3, 2, *range(4, 27))), False)
        self.assertIs(is_level_turn(whole, 3, (1, 0, 2, 4, 3, *range(5, 27))), True)

    def test_each_length_divides_the_next_one(self):
        for machine in self.machines():
            sizes = [level_size(machine, length) for length in range({2: 6, 3: 4, 4: 3}[machine.letters])]
            self.assertEqual(sizes[0], 1)
            for one, other in zip(sizes, sizes[1:]):
                self.assertEqual(other % one, 0)

    def test_rotations_have_powers_of_a_prime(self):
        chance = random.Random(3)
        for letters in (2, 3):
            for _ in range(15):
                many = chance.randint(1, 4)
                machine = Machine(letters, {
                    name: (tuple((letter + shift) % letters for letter in range(letters)),
                           tuple(chance.choice("abcd"[:many]) for _ in range(letters)))
                    for name, shift in ((name, chance.randrange(letters)) for name in "abcd"[:many])
                })
                for length in range({2: 6, 3: 4}[letters]):
                    size, power = level_size(machine, length), 0
                    while size % letters == 0:
                        size, power = size // letters, power + 1
                    self.assertEqual(size, 1)
                    self.assertLessEqual(power, (letters ** length - 1) // (letters - 1))

    def test_level_turns_of_words(self):
        chance = random.Random(4)
        for machine in (HANOI, LAMP, FOLDED, counter(4)):
            length = {2: 5, 3: 3, 4: 2}[machine.letters]
            for _ in range(8):
                word = tuple((chance.choice(machine.states), chance.choice((1, -1))) for _ in range(5))
                turn = level_turn(word_move(machine, word), length)
                self.assertIs(is_level_turn(machine, length, turn), True)
                self.assertIs(is_level_turn(machine, length, list(turn)), False)

    def test_so_many_texts(self):
        for machine, length in ((ODD, 5), (HANOI, 3), (counter(4), 2), (LAMP, 5)):
            level_size(machine, length)
            still = tuple(range(machine.letters ** length))
            self.assertIs(is_level_turn(machine, length, still), True)
            for more in (length + 1, 8, 200):
                self.refused_with(TooMany(32), level_size, machine, more)
                self.refused_with(TooMany(32), is_level_turn, machine, more, None)

    def test_judged_values(self):
        for value in [*VALUES, (1, 0), (0, 1, 2), (0, 1, 2, 2), (0, 1, 2, 4), (-1, 0, 1, 2), (0, 1, 2, BIG), (1, 0, 3, 2, 4), (0, 1, 2, 3, 0), (0, 1, 2),
                      (True, 0, 2, 3), (False, 1, 2, 3), (0, 1, 2, "3"), (0, 1, 2, (3,)), [0, 1, 2, 3], "0123", (2, 1, 0, None)]:
            told = value == (0, 1, 2, 3) and type(value) is tuple and all(type(part) is int for part in value)
            self.assertIs(is_level_turn(GRAY, 2, value), told, value)
        self.assertIs(is_level_turn(ODD, 0, (0,)), True)
        self.assertIs(is_level_turn(ODD, 0, (False,)), False)
        self.assertIs(is_level_turn(ODD, 0, ()), False)
        self.assertIs(is_level_turn(ODD, 1, (1, 0)), True)
        self.assertIs(is_level_turn(ODD, 1, (True, False)), False)


class Refused(Case):

    def test_machines_and_moves_come_first(self):
        for value in VALUES:
            if not isinstance(value, Move):
                self.refused(InvalidMove, level_turn, value, 2)
                self.refused(InvalidMove, level_turn, value, value)
            if not isinstance(value, Machine):
                for call in (pieces, piece_number, level_size, piece_of):
                    self.refused(InvalidMachine, call, value, 2)
                    self.refused(InvalidMachine, call, value, value)
                self.refused(InvalidMachine, parting_length, value)
                self.refused(InvalidMachine, is_level_turn, value, value, value)

    def test_lengths(self):
        for value in VALUES:
            if type(value) is not int or not 0 <= value <= 200:
                self.refused_with(InvalidNumber(value), level_turn, ADD, value)
                for machine in (ODD, LAMP, LONG, OVER):
                    for call in (pieces, piece_number, level_size):
                        self.refused_with(InvalidNumber(value), call, machine, value)
                    self.refused_with(InvalidNumber(value), is_level_turn, machine, value, value)

    def test_texts(self):
        for value in VALUES:
            if not is_text(2, value):
                for machine in (ODD, LAMP):
                    self.refused(InvalidText, piece_of, machine, value)

    def test_loud_machines(self):
        both = OVER.with_state("z", (1, 2, 3, 0), ("z", "z", "b", "b"))
        for machine, state in ((LAMP, "a"), (LONG, "c"), (both, "z")):
            for length in (0, 4, 200):
                self.refused_with(Loud(state), piece_number, machine, length)
            self.refused_with(Loud(state), parting_length, machine)
        # The others do not ask for a quiet machine.
        self.assertEqual((level_size(LAMP, 2), len(pieces(LAMP, 2)), len(piece_of(LAMP, "00"))), (8, 1, 4))
        self.refused_with(TooMany(32), level_size, LAMP, 6)
        self.refused_with(TooMany(256), pieces, LAMP, 9)

    def test_nothing_is_changed(self):
        told = [str(machine) for machine in (OVER, HANOI, ODD)]
        self.refused_with(TooMany(24), parting_length, OVER)
        self.refused_with(TooMany(256), piece_of, HANOI, "0" * 100)
        level_size(HANOI, 3), pieces(ODD, 4), is_level_turn(ODD, 2, (0, 1, 2, 3))
        self.assertEqual([str(machine) for machine in (OVER, HANOI, ODD)], told)
