"""Wrong arguments of moves, and moves that are too great to be told."""

import random

from support import BIG, GRAY, HANOI, LAMP, NO_LETTERS, ODD, STAY, SWAP, VALUES, Case, random_rows, ring_move
from textmovers.base.letters import is_text, is_turn
from textmovers.errors import InvalidMachine, InvalidMove, InvalidNumber, InvalidText, TooMany, UnknownName
from textmovers.machine.machines import Machine
from textmovers.move.moves import Move, first_turned, idle, joined_move, move_of

ROW = (STAY, (0, 0))
NO_TURNS = [value for value in VALUES if not is_turn(2, value)]
NO_MACHINES = [value for value in VALUES if not isinstance(value, Machine)]
NO_MOVES = [value for value in VALUES if not isinstance(value, Move)]
NO_POWERS = [value for value in VALUES if type(value) is not int or not -100 <= value <= 100]


class Making(Case):

    def test_letters_decide_first(self):
        for letters in NO_LETTERS:
            for rows in ((ROW,), (), (None,), (ROW,) * 61, ("x", 1)):
                self.refused_with(InvalidNumber(letters), Move, letters, *rows)
                self.refused_with(InvalidNumber(letters), Move.of, letters, rows)
                self.refused_with(InvalidNumber(letters), Move.of, letters, list(rows))
            self.refused_with(InvalidNumber(letters), idle, letters)
            for turn in (STAY, (0, 0), None):
                self.refused_with(InvalidNumber(letters), first_turned, letters, turn)

    def refused_rows(self, *rows):
        """Both ways of making refuse these rows of two letters."""
        self.refused(InvalidMove, Move, 2, *rows)
        self.refused(InvalidMove, Move.of, 2, rows)

    def test_numbers_of_rows(self):
        self.refused_rows()
        self.refused_rows(*[ROW] * 61)
        self.refused_rows(*[ROW] * 3000)
        self.assertTrue(Move(2, *[ROW] * 60).is_idle)

    def test_of_takes_a_tuple(self):
        for value in VALUES:
            if value != (((0, 1), (0, 0)),):
                self.refused(InvalidMove, Move.of, 2, value)
        self.refused(InvalidMove, Move.of, 2, [ROW])
        self.refused(InvalidMove, Move.of, 2, ROW)
        self.refused(InvalidMove, Move.of, 2, {0: ROW})
        self.refused(InvalidMove, Move.of, 2, idle(2))

    def test_rows_of_other_kinds(self):
        for value in VALUES:
            if value != ((0, 1), (0, 0)):
                self.refused_rows(value)
                self.refused_rows(ROW, value)
        for row in [(STAY,), (STAY, (0, 0), 0), [STAY, (0, 0)], ((0, 0), STAY), {0: STAY, 1: (0, 0)}, (STAY, "00"), ()]:
            self.refused_rows(row)
            self.refused_rows(ROW, row)

    def test_turns(self):
        for turn in NO_TURNS:
            self.refused_rows((turn, (0, 0)))
            self.refused_rows(ROW, (turn, (0, 0)))
        for turn in [(False, True), (0, True), (1, 1), (0, 2), (-1, 0), (0, 1, 2), (0,), (0, BIG), [0, 1], "01"]:
            self.refused_rows((turn, (0, 0)))

    def test_numbers_of_next_rows(self):
        for value in VALUES:
            if type(value) is not int or value not in (0, 1):
                self.refused_rows((STAY, (value, 0)), ROW)
                self.refused_rows((STAY, (0, 1)), (STAY, (0, value)))
        for nexts in [(0,), (0, 0, 0), [0, 0], (0, 1), (0, -1), (False, 0), (0, False), "00", None, (BIG, 0), {0: 0, 1: 0}]:
            self.refused_rows((STAY, nexts))
        self.refused_rows(*[(STAY, (60, 0))] * 60)

    def test_rows_of_other_letters(self):
        self.refused(InvalidMove, Move, 3, ROW)
        self.refused(InvalidMove, Move, 2, ((0, 1, 2), (0, 0, 0)))
        self.refused(InvalidMove, Move, 3, ((0, 1, 2), (0, 0)))
        self.refused(InvalidMove, Move, 4, ((0, 1, 2), (0, 0, 0, 0)))

    def test_rows_that_are_not_reached_are_judged_too(self):
        self.refused_rows(ROW, (STAY, (0, 2)))
        self.refused_rows(ROW, ROW, ((0, 0), (0, 0)))


class States(Case):

    def test_machines_decide_first(self):
        for value in NO_MACHINES:
            self.refused(InvalidMachine, move_of, value, "a")
            self.refused(InvalidMachine, move_of, value, None)

    def test_unknown_states(self):
        for state in VALUES:
            if state not in ("a", "e"):
                self.refused_with(UnknownName(state), move_of, ODD, state)
        self.refused_with(UnknownName("c"), move_of, GRAY, "c")

    def test_turns(self):
        for turn in NO_TURNS:
            self.refused(InvalidMove, first_turned, 2, turn)
        self.refused(InvalidMove, first_turned, 3, STAY)
        self.refused(InvalidMove, first_turned, 2, (0, 1, 2))


class Texts(Case):

    def test_no_texts(self):
        move = move_of(ODD, "a")
        for text in VALUES:
            if not is_text(2, text):
                for call in (move, move.rest, move.is_kept):
                    self.refused(InvalidText, call, text)
        for call in (move_of(HANOI, "a"), move_of(HANOI, "a").rest, move_of(HANOI, "a").is_kept):
            self.refused(InvalidText, call, "0123")
            self.refused(InvalidText, call, "0" * 201)


class Operands(Case):

    def test_no_moves(self):
        move = move_of(ODD, "a")
        for value in [*NO_MOVES, idle(3), idle(4), move.rows]:
            self.refused(InvalidMove, lambda: move * value)
            self.refused(InvalidMove, move.moved_by, value)
        for value in (idle(2), idle(4)):
            self.refused(InvalidMove, lambda: idle(3) * value)
            self.refused(InvalidMove, idle(3).moved_by, value)

    def test_powers(self):
        for number in [*NO_POWERS, 101, -101, 1000, True, False, "1"]:
            self.refused_with(InvalidNumber(number), move_of(ODD, "a").power, number)
            self.refused_with(InvalidNumber(number), ring_move(60).power, number)
        for number in (-100, -1, 0, 1, 100):
            self.assertEqual(move_of(ODD, "a").power(number)("0" * 9), format(number & 511, "09b")[::-1])

    def test_joined(self):
        one = idle(2)
        for turn in NO_TURNS:
            self.refused(InvalidMove, joined_move, turn, one, one)
        for value in [*NO_MOVES, idle(3)]:
            self.refused(InvalidMove, joined_move, STAY, one, value)
            self.refused(InvalidMove, joined_move, STAY, value, one)
        for many in (0, 1, 3, 4, 5, 6):
            self.refused(InvalidMove, joined_move, STAY, *[one] * many)
            self.refused(InvalidMove, joined_move, tuple(range(many)), *[one] * many)
        self.refused(InvalidMove, joined_move, (0, 1, 2), one, one)
        self.refused(InvalidMove, joined_move, (0, 1, 2), idle(3), idle(3), idle(2))
        self.refused(InvalidMove, joined_move, tuple(range(5)), *[idle(4)] * 5)
        self.refused(InvalidMove, joined_move, (0, 0), ring_move(60), ring_move(59))
        self.refused(InvalidMove, joined_move, STAY, ring_move(60), ring_move(59, 3))


class TooGreat(Case):
    """Moves of exactly 60 and of 61 rests."""

    def test_products(self):
        self.assertEqual(len(ring_move(5) * ring_move(12)), 60)
        self.assertEqual(len(ring_move(7) * ring_move(8)), 56)
        self.refused_with(TooMany(60), lambda: ring_move(8) * ring_move(9))
        self.assertEqual(len(first_turned(2, SWAP) * ring_move(59)), 60)
        self.refused_with(TooMany(60), lambda: first_turned(2, SWAP) * ring_move(60))
        self.assertEqual(len(first_turned(3, (1, 0, 2)) * ring_move(59, 3)), 60)
        self.refused_with(TooMany(60), lambda: first_turned(3, (1, 0, 2)) * ring_move(60, 3))

    def test_many_pairs_that_are_alike(self):
        self.assertTrue((ring_move(60) * ring_move(60)).is_idle)
        self.assertEqual(len(ring_move(59) * ~ring_move(59)), 1)
        one, other = (Move(4, *random_rows(random.Random(seed), 4, 50)) for seed in (1, 2))
        self.refused_with(TooMany(60), lambda: one * other)

    def test_joined(self):
        ring = ring_move(60)
        self.assertEqual(len(joined_move(STAY, ring, ring)), 60)
        self.refused_with(TooMany(60), joined_move, SWAP, ring, ring)
        self.assertEqual(len(joined_move(SWAP, ring_move(59), ring_move(59))), 60)
        self.refused_with(TooMany(60), joined_move, STAY, ring, idle(2))
        self.refused_with(TooMany(60), joined_move, (0, 1, 2, 3), *[ring_move(many, 4) for many in (17, 19, 13, 11)])
        self.assertEqual(len(joined_move((0, 1, 2, 3), *[ring_move(many, 4) for many in (17, 19, 12, 11)])), 60)

    def test_powers_that_grow(self):
        lamp = move_of(LAMP, "a")
        self.assertEqual([len(lamp.power(number)) for number in range(-5, 6)], [32, 16, 8, 4, 2, 1, 2, 4, 8, 16, 32])
        for number in (6, 7, 100, -6, -7, -100):
            self.refused_with(TooMany(60), lamp.power, number)

    def test_powers_on_the_way(self):
        # Its square has 73 rests, and four times it is idle.
        move = joined_move(SWAP, ring_move(8), ring_move(9))
        self.assertEqual(len(move), 18)
        self.refused_with(TooMany(60), lambda: move * move)
        for number in (2, 3, 4, 5, 100, -2, -3, -4, -100):
            self.refused_with(TooMany(60), move.power, number)
        self.assertTrue(move.power(1) == move and move.power(-1) == ~move and move.power(0).is_idle)

    def test_powers_of_just_sixty_rests(self):
        move = joined_move(SWAP, ring_move(5), ring_move(12))
        self.assertEqual([len(move.power(number)) for number in range(5)], [1, 18, 60, 18, 1])
        self.assertTrue(move.power(100).is_idle and move.power(-99) == move)

    def test_moved_by_with_a_great_first_product(self):
        self.refused_with(TooMany(60), lambda: ~ring_move(8) * ring_move(9))
        self.refused_with(TooMany(60), ring_move(9).moved_by, ring_move(8))
        self.assertTrue(ring_move(5).moved_by(ring_move(12)) == ring_move(5))

    def test_moved_by_with_a_great_whole(self):
        one = joined_move(SWAP, ring_move(8), idle(2))
        other = joined_move(STAY, idle(2), ring_move(9))
        self.assertEqual(len(~other * one), 18)
        self.refused_with(TooMany(60), one.moved_by, other)

    def test_wrong_operands_come_first(self):
        self.refused(InvalidMove, ring_move(60).moved_by, ring_move(59, 3))
        self.refused(InvalidMove, lambda: ring_move(60) * ring_move(59, 3))

    def test_a_refused_call_changes_nothing(self):
        one, other = ring_move(8), ring_move(9)
        told = (str(one), str(other))
        self.refused_with(TooMany(60), lambda: one * other)
        self.assertEqual((str(one), str(other)), told)
