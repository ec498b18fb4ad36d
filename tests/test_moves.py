"""Moves: least forms, what they lead texts to, rests, products and their order."""

import itertools
import random

from support import (
    GRAY, HANOI, LAMP, ODD, STAY, SWAP, VALUES, Case, model_least, model_led, model_product, model_step,
    random_moves, random_rows, random_tables, random_texts, ring_move, short_texts, turns,
)
from textmovers.machine.machines import Machine
from textmovers.move.moves import Move, first_turned, idle, joined_move, move_of


def row_tables(seed, rounds=4):
    """Pairs of a number of letters and rows by chance."""
    chance = random.Random(seed)
    return [
        (letters, random_rows(chance, letters, many))
        for letters in (2, 3, 4) for many in (1, 2, 3, 4, 5, 8, 13) for _ in range(rounds)
    ]


def told_otherwise(chance, letters, rows):
    """The same move by rows in another order, with doubled ones and ones that are not reached."""
    spare = random_rows(chance, letters, 3)
    many = len(rows)
    doubled = [(turn, tuple(behind + many * chance.randrange(2) for behind in nexts)) for turn, nexts in rows * 2]
    doubled += [(turn, tuple(chance.randrange(2 * many + 3) for _ in nexts)) for turn, nexts in spare]
    order = list(range(1, len(doubled)))
    chance.shuffle(order)
    order = [0, *order]
    return tuple(
        (doubled[at][0], tuple(order.index(behind) for behind in doubled[at][1])) for at in order
    )


TABLES = row_tables(1)


class LeastForms(Case):

    def test_against_the_model(self):
        for letters, rows in TABLES:
            move = Move(letters, *rows)
            self.assertEqual(move.rows, model_least(rows))
            self.assertEqual(move.letters, letters)
            self.assertEqual(len(move), len(move.rows))
            self.assertEqual(move.first_turn, rows[0][0])
            self.assertTrue(Move(letters, *move.rows) == move)

    def test_told_otherwise(self):
        chance = random.Random(2)
        for letters, rows in TABLES:
            move = Move(letters, *rows)
            for _ in range(3):
                other = Move(letters, *told_otherwise(chance, letters, rows))
                self.assertEqual(other.rows, move.rows)
                self.assertTrue(other == move)
                self.assertFalse(other != move)
                self.assertEqual((str(other), len(other)), (str(move), len(move)))

    def test_equal_exactly_if_all_texts_are_led_alike(self):
        halves = list(itertools.product((STAY, SWAP), itertools.product((0, 1), repeat=2)))
        moves = [Move(2, *rows) for rows in itertools.product(halves, repeat=2)]
        come = [[move(text) for text in short_texts(2, 4)] for move in moves]
        for one, other in itertools.product(range(len(moves)), repeat=2):
            alike = come[one] == come[other]
            self.assertIs(moves[one] == moves[other], alike)
            self.assertIs(moves[one].rows == moves[other].rows, alike)

    def test_one_change_at_chance(self):
        chance = random.Random(5)
        for letters in (2, 3):
            for _ in range(60):
                rows = random_rows(chance, letters, 3)
                other = list(rows)
                at = chance.randrange(3)
                other[at] = random_rows(chance, letters, 3)[at]
                one, two = Move(letters, *rows), Move(letters, *other)
                alike = all(model_led(rows, text) == model_led(other, text) for text in short_texts(letters, 6))
                self.assertIs(one == two, alike)

    def test_move_of_is_the_same(self):
        for letters, rows in TABLES:
            self.assertTrue(Move.of(letters, rows) == Move(letters, *rows))
            self.assertIs(type(Move.of(letters, rows)), Move)

    def test_one_and_sixty_rows(self):
        self.assertEqual(Move(2, (SWAP, (0, 0))).rows, ((SWAP, (0, 0)),))
        chain = [(STAY, (at + 1, at + 1)) for at in range(58)] + [(SWAP, (59, 59)), (STAY, (59, 59))]
        move = Move(2, *chain)
        self.assertEqual((len(move), move.rows), (60, tuple(chain)))
        self.assertEqual(move("0" * 58 + "01" + "0"), "0" * 58 + "11" + "0")
        self.assertEqual(len(Move(2, *[(STAY, (0, 0))] * 60)), 1)
        self.assertEqual(len(ring_move(60)), 60)

    def test_idle(self):
        for letters, rows in TABLES:
            move = Move(letters, *rows)
            texts = short_texts(letters, 4 if letters < 4 else 3)
            if len(rows) <= 4:
                self.assertIs(move.is_idle, all(move(text) == text for text in texts))
        stays = [(tuple(range(3)), (1, 2, 0)), (tuple(range(3)), (2, 2, 1)), (tuple(range(3)), (0, 0, 0))]
        self.assertIs(Move(3, *stays).is_idle, True)
        self.assertIs(Move(2, (STAY, (0, 1)), (SWAP, (0, 0))).is_idle, False)
        self.assertIs(Move(2, (SWAP, (0, 0))).is_idle, False)

    def test_strings(self):
        for letters, rows in TABLES:
            move = Move(letters, *rows)
            parts = [" ".join(["".join(map(str, turn)), *map(str, nexts)]) for turn, nexts in move.rows]
            self.assertEqual(str(move), f"move of {letters} letters: {' | '.join(parts)}")

    def test_no_shared_state(self):
        given = [(SWAP, (1, 0)), (STAY, (1, 1))]
        move = Move(2, *given)
        given.clear()
        self.assertEqual(move.rows, ((SWAP, (1, 0)), (STAY, (1, 1))))

    def test_equal_to_every_kind_of_value(self):
        move = move_of(ODD, "a")
        for value in [*VALUES, object(), move.rows, (2, move.rows), str(move)]:
            self.assertIs(move == value, False)
            self.assertIs(move != value, True)
            self.assertIs(value == move, False)
        self.assertFalse(idle(2) == idle(3))
        self.assertTrue(idle(2) != idle(3))

    def test_moves_cannot_be_iterated_over(self):
        for call in (lambda: iter(idle(2)), lambda: list(idle(2)), lambda: 1 in idle(2), lambda: idle(2)[0]):
            self.refused(TypeError, call)


class Leading(Case):

    def test_against_the_rows(self):
        for letters, rows in TABLES:
            move = Move(letters, *rows)
            for text in random_texts(len(rows), letters):
                self.assertEqual(move(text), model_led(rows, text))
                self.assertIs(move.is_kept(text), model_led(rows, text) == text)

    def test_kept_texts(self):
        for letters in (2, 3, 4):
            for move in [*random_moves(9, letters), idle(letters)]:
                for text in short_texts(letters, 3):
                    self.assertIs(move.is_kept(text), move(text) == text)

    def test_against_the_machine(self):
        for letters, table in random_tables(6, 1):
            machine = Machine(letters, table)
            for state in table:
                move = move_of(machine, state)
                self.assertEqual((move.letters, move.first_turn), (letters, table[state][0]))
                for text in random_texts(8, letters, (0, 1, 2, 3, 7, 30, 200)):
                    self.assertEqual(move(text), model_step(table, state, text)[0])

    def test_moves_of_states(self):
        self.assertEqual(move_of(LAMP, "a").rows, ((SWAP, (0, 1)), (STAY, (0, 1))))
        self.assertEqual(move_of(LAMP, "b").rows, ((STAY, (1, 0)), (SWAP, (1, 0))))
        self.assertTrue(move_of(HANOI, "e").is_idle)
        self.assertEqual(len(move_of(GRAY, "b")), 3)


class Rests(Case):

    def moves(self):
        """Some moves of each number of letters."""
        return [move for letters in (2, 3, 4) for move in random_moves(letters, letters)]

    def test_a_rest_tells_what_comes_out_behind(self):
        for move in self.moves():
            for text in random_texts(3, move.letters, (0, 1, 2, 3, 9)):
                rest = move.rest(text)
                for behind in random_texts(4, move.letters, (0, 1, 2, 5, 100)):
                    self.assertEqual(move(text + behind), move(text) + rest(behind))

    def test_the_rest_behind_nothing_and_behind_more(self):
        for move in self.moves():
            self.assertTrue(move.rest("") == move)
            for text in random_texts(5, move.letters, (2, 4, 8, 200)):
                self.assertTrue(move.rest(text) == move.rest(text[:2]).rest(text[2:]))

    def test_rests_in_the_order_of_the_least_form(self):
        for move in self.moves():
            rests = move.rests()
            self.assertIs(type(rests), tuple)
            self.assertEqual(len(rests), len(move))
            self.assertTrue(rests[0] == move)
            for place, rest in enumerate(rests):
                turn, nexts = move.rows[place]
                self.assertEqual(rest.first_turn, turn)
                for letter, behind in enumerate(nexts):
                    self.assertTrue(rest.rest(str(letter)) == rests[behind])
            self.assertEqual(len({rest.rows for rest in rests}), len(rests))

    def test_just_the_rests_behind_all_texts(self):
        for move in self.moves():
            if move.letters == 2:
                behind = {move.rest(text).rows for text in short_texts(2, len(move))}
                self.assertEqual(behind, {rest.rows for rest in move.rests()})

    def test_joined_again(self):
        for move in self.moves():
            rests = [move.rest(str(letter)) for letter in range(move.letters)]
            self.assertTrue(joined_move(move.first_turn, *rests) == move)

    def test_joined_moves_lead_by_their_parts(self):
        for letters in (2, 3, 4):
            moves = random_moves(letters + 20, letters)
            for turn in turns(letters):
                rests = moves[:letters]
                moves = moves[1:] + moves[:1]
                joined = joined_move(turn, *rests)
                for text in short_texts(letters, 3):
                    told = str(turn[int(text[0])]) + rests[int(text[0])](text[1:]) if text else ""
                    self.assertEqual(joined(text), told)


class Products(Case):

    def test_first_the_one_and_then_the_other(self):
        for letters in (2, 3, 4):
            for one, other in itertools.product(random_moves(letters, letters, 6), repeat=2):
                both = one * other
                self.assertEqual(both.rows, model_least(model_product(one.rows, other.rows)))
                for text in random_texts(6, letters, (0, 1, 2, 3, 20, 200)):
                    self.assertEqual(both(text), other(one(text)))

    def test_in_each_grouping(self):
        for letters in (2, 3):
            moves = random_moves(letters + 7, letters, 5, 3)
            for one, two, three in itertools.product(moves, repeat=3):
                self.assertTrue((one * two) * three == one * (two * three))

    def test_undone(self):
        for letters in (2, 3, 4):
            for move in random_moves(letters + 11, letters, 20):
                back = ~move
                self.assertTrue(back == move.undone())
                self.assertEqual(len(back), len(move))
                self.assertTrue((move * back).is_idle and (back * move).is_idle)
                self.assertTrue(~back == move)
                for text in random_texts(6, letters, (0, 1, 2, 3, 20, 200)):
                    self.assertEqual(back(move(text)), text)

    def test_undone_products(self):
        for one, other in itertools.product(random_moves(31, 3, 6, 4), repeat=2):
            self.assertTrue(~(one * other) == ~other * ~one)

    def test_the_idle_move(self):
        for letters in (2, 3, 4):
            for move in random_moves(letters + 13, letters):
                self.assertTrue(move * idle(letters) == move)
                self.assertTrue(idle(letters) * move == move)
            self.assertEqual(idle(letters).rows, ((tuple(range(letters)), (0,) * letters),))
            self.assertIs(idle(letters).is_idle, True)

    def test_moved_by(self):
        for letters in (2, 3, 4):
            for one, other in itertools.product(random_moves(letters + 17, letters, 4, 3), repeat=2):
                moved = one.moved_by(other)
                self.assertTrue(moved == ~other * one * other)
                for text in random_texts(6, letters, (0, 1, 2, 3, 20)):
                    self.assertEqual(moved(other(text)), other(one(text)))

    def test_powers(self):
        for machine, state in ((ODD, "a"), (GRAY, "b"), (HANOI, "c"), (HANOI, "e")):
            move = move_of(machine, state)
            power = idle(machine.letters)
            for number in range(101):
                self.assertTrue(move.power(number) == power)
                self.assertTrue(move.power(-number) == ~power)
                power = power * move

    def test_powers_of_moves_by_chance(self):
        for letters in (2, 3, 4):
            for move in random_moves(letters + 19, letters, 8, 2):
                for number in range(4):
                    for text in random_texts(6, letters, (1, 2, 3, 9)):
                        come = back = text
                        for _ in range(number):
                            come, back = move(come), (~move)(back)
                        self.assertEqual(move.power(number)(text), come)
                        self.assertEqual(move.power(-number)(text), back)

    def test_first_turned(self):
        for letters in (2, 3, 4):
            for turn in turns(letters):
                move = first_turned(letters, turn)
                self.assertEqual((move.letters, move.first_turn), (letters, turn))
                self.assertEqual(len(move), 1 if turn == tuple(range(letters)) else 2)
                for text in short_texts(letters, 3)[1:]:
                    self.assertEqual(move(text), str(turn[int(text[0])]) + text[1:])

    def test_nothing_is_changed(self):
        for one, other in itertools.product(random_moves(41, 3, 5, 4), repeat=2):
            told = (one.letters, one.rows, str(one), other.rows)
            one.moved_by(other), one * other, ~one, one.power(-2), one.rests(), one.rest("01"), one("01"), one < other
            joined_move((0, 1, 2), one, other, one)
            self.assertEqual((one.letters, one.rows, str(one), other.rows), told)


class Order(Case):

    def moves(self):
        """Moves of all numbers of letters and of some numbers of rows."""
        moves = [move for letters in (2, 3, 4) for move in random_moves(letters + 23, letters, 10, 4)]
        moves += [idle(letters) for letters in (4, 3, 2)] + [first_turned(2, SWAP), move_of(ODD, "a"), ring_move(12)]
        moves += [Move(2, (SWAP, (0, 0))), Move(2, (SWAP, (0, 1)), (STAY, (0, 1))), Move(2, (SWAP, (0, 1)), (STAY, (1, 1)))]
        return moves

    def test_less(self):
        for one, other in itertools.product(self.moves(), repeat=2):
            less = (one.letters, len(one.rows), one.rows) < (other.letters, len(other.rows), other.rows)
            self.assertIs(one < other, less)
            self.assertIs(one > other, not less and one != other)

    def test_sorted(self):
        moves = self.moves()
        told = sorted(moves, key=lambda move: (move.letters, len(move.rows), move.rows))
        random.Random(3).shuffle(moves)
        self.assertEqual([move.rows for move in sorted(moves)], [move.rows for move in told])

    def test_other_kinds(self):
        move = move_of(ODD, "a")
        for value in [*VALUES, object(), move.rows]:
            if not isinstance(value, Move):
                self.refused(TypeError, lambda: move < value)
                self.refused(TypeError, lambda: move > value)
