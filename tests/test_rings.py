"""Rings of texts under a move, and how often it must be done."""

import itertools
import random

from support import (
    BIG, FOLDED, GRAY, HANOI, LAMP, ODD, STAY, SWAP, VALUES, Case, all_texts, circle_move, quiet_machines, random_moves,
    random_texts, ring_move, short_texts, stepping_ring,
)
from textmovers.base.letters import is_text
from textmovers.errors import InvalidMove, InvalidNumber, InvalidText, TooMany
from textmovers.machine.known import counter
from textmovers.move.moves import Move, first_turned, idle, joined_move, move_of
from textmovers.move.tables import least_rows, product_rows
from textmovers.move.words import word_move
from textmovers.ring.rings import (
    led_often, ring_counts, ring_length, ring_rest, ring_rests, ring_table, ring_texts, times,
)

ADD = move_of(ODD, "a")
TURNS = word_move(HANOI, (("a", 1), ("b", 1)))
LAMP_A = move_of(LAMP, "a")


# The ring-rest behind 0 has more than sixty rests.
GREAT = joined_move(SWAP, ring_move(8), ring_move(9))


def tame(move):
    """Whether the move has few ring-rests that can be told."""
    try:
        return len(ring_rests(move)) <= 100
    except TooMany:
        return False


def some_moves():
    """Moves with ring-rests that can all be told."""
    found = [move_of(machine, state) for machine in (ODD, GRAY, HANOI, FOLDED, counter(3), counter(4)) for state in machine]
    found += [~ADD, ADD * ADD, TURNS, TURNS.power(2), idle(2), idle(4), circle_move(4), circle_move(3, 3)]
    chance = random.Random(1)
    for machine in quiet_machines(21, 25, sizes=(2, 3, 4)):
        word = tuple((chance.choice(machine.states), chance.choice((1, -1))) for _ in range(3))
        found.append(word_move(machine, word))
    for letters in (2, 3, 4):
        found += [move for move in random_moves(letters + 50, letters, 25, 3)]
    return [move for move in found if tame(move)]


MOVES = some_moves()


def model_ring(move, text):
    """The texts that come by doing the move again and again, until the first one comes back."""
    ring = [text]
    while move(ring[-1]) != text:
        ring.append(move(ring[-1]))
    return tuple(ring)


def model_ring_rest(move, text):
    """The least form of the rest behind the text of so many times the move as its ring has texts."""
    rows = ((tuple(range(move.letters)), (0,) * move.letters),)
    for one in model_ring(move, text):
        rows = least_rows(product_rows(rows, move.rest(one).rows), 10 ** 9)
    return rows


def model_rests(move):
    """The least forms of all ring-rests in their order, by the letters alone."""
    order = [move.rows]
    for rows in order:
        for letter in "0123"[:move.letters]:
            rest = model_ring_rest(Move(move.letters, *rows), letter)
            if rest not in order:
                order.append(rest)
    return order


class Rings(Case):

    def test_against_moves_done_again_and_again(self):
        for move in MOVES:
            for text in short_texts(move.letters, 5 if move.letters == 2 else 3):
                ring = model_ring(move, text)
                self.assertEqual(ring_length(move, text), len(ring))
                if len(ring) <= 256:
                    self.assertEqual(ring_texts(move, text), ring)
                self.assertEqual(ring_rest(move, text).rows, model_ring_rest(move, text))

    def test_behind_a_letter_and_then_the_others(self):
        for move in MOVES:
            for text in random_texts(2, move.letters, (1, 2, 5, 30, 200)):
                first = ring_rest(move, text[0])
                self.assertTrue(ring_rest(move, text) == ring_rest(first, text[1:]))
                self.assertEqual(ring_length(move, text), ring_length(move, text[0]) * ring_length(first, text[1:]))
            self.assertTrue(ring_rest(move, "") == move)
            self.assertEqual(ring_length(move, ""), 1)
            self.assertEqual(ring_texts(move, ""), ("",))

    def test_long_texts(self):
        self.assertEqual(ring_length(ADD, "01" * 100), 2 ** 200)
        self.assertEqual(ring_length(TURNS, "2" * 200), 3 ** 200)
        self.assertEqual(ring_length(move_of(counter(4), "a"), "3" * 200), 4 ** 200)
        self.assertTrue(ring_rest(ADD, "10" * 100) == ADD)

    def test_just_so_many_texts(self):
        self.assertEqual(len(ring_texts(ADD, "01100110")), 256)
        self.refused_with(TooMany(256), ring_texts, ADD, "011001100")
        self.refused_with(TooMany(256), ring_texts, TURNS, "000000")
        self.assertEqual(len(ring_texts(TURNS, "00000")), 243)
        self.assertEqual(len(ring_texts(move_of(HANOI, "a"), "20" * 100)), 2)

    def test_ring_rests_of_sixty_rests_and_of_more(self):
        sixty, more = stepping_ring(14, 17, 3, 3), stepping_ring(15, 16, 3, 3)
        self.assertEqual([len(ring_rest(sixty, letter)) for letter in "01"], [60, 60])
        self.assertEqual((ring_length(sixty, "0"), ring_texts(sixty, "1")), (2, ("1", "0")))
        self.assertEqual(ring_length(more, "2"), 2)
        for move in (more, GREAT):
            for text in ("0", "1", "00", "10" * 100):
                for call, others in ((ring_rest, ()), (ring_length, ()), (ring_texts, ()), (led_often, (3,)),
                                     (led_often, (0,)), (times, (text,))):
                    self.refused_with(TooMany(60), call, move, text, *others)
            self.assertEqual((ring_length(move, ""), ring_texts(move, ""), times(move, "", ""), led_often(move, "", 9)),
                             (1, ("",), 0, ""))
        joined = joined_move(SWAP, ring_move(5), ring_move(12))
        self.assertEqual(len(ring_rest(joined, "0")), 60)

    def test_the_whole_text_counts_too(self):
        move = joined_move((1, 0, 2), ring_move(8, 3), ring_move(9, 3), first_turned(3, (0, 2, 1)))
        self.assertEqual(ring_length(move, "2"), 1)
        self.assertEqual(ring_length(move, "21"), 2)
        self.refused_with(TooMany(60), ring_length, move, "0")
        self.assertIsNone(times(move, "2", "0"))
        self.refused_with(TooMany(60), times, move, "0", "2")
        deep = joined_move(STAY, idle(2), GREAT)
        self.assertEqual(ring_length(deep, "1"), 1)
        self.assertEqual(ring_length(deep, "0" * 200), 1)
        self.refused_with(TooMany(60), ring_length, deep, "10")
        self.refused_with(TooMany(60), ring_rest, deep, "11")
        self.refused_with(TooMany(60), times, deep, "10", "00")
        self.refused_with(TooMany(60), led_often, deep, "100", 1)
        self.refused_with(TooMany(60), ring_texts, deep, "1" * 20)

    def test_too_many_rests_ahead_of_too_many_texts(self):
        # Behind 0000 0000 0 there are 512 texts in the ring.
        self.refused_with(TooMany(60), ring_texts, LAMP_A, "0" * 9)

    def test_great_products_on_the_way(self):
        # Each of these moves is its own undone one, and any two can be exchanged.
        small = [ring_move(size, 3) for size in (4, 5)]
        move = joined_move((1, 2, 0), small[0], small[1], small[0] * small[1])
        self.assertTrue(ring_rest(move, "0").is_idle)
        self.assertTrue(ring_rest(move, "2" * 50).is_idle)
        # Two of them together have 72 rests.
        wide = joined_move((1, 2, 3, 0), ring_move(8, 4), ring_move(9, 4), ring_move(8, 4), ring_move(9, 4))
        self.assertTrue(ring_rest(wide, "0").is_idle)
        self.assertEqual(ring_length(wide, "0123"), 4)
        self.assertEqual(ring_counts(wide, 4), {4: 64})

    def test_far_more_products_than_rests(self):
        # The second and the fourth one leave nothing in the end, but on the way there are 780 products.
        just = joined_move((1, 2, 3, 0), *[ring_move(size, 4) for size in (20, 13, 3, 13)])
        self.assertEqual(len(ring_rest(just, "0")), 60)
        self.assertEqual(ring_length(just, "0" * 30), 8)
        self.assertEqual(ring_counts(just, 1), {4: 1})
        more = joined_move((1, 2, 3, 0), *[ring_move(size, 4) for size in (7, 13, 9, 13)])
        self.refused_with(TooMany(60), ring_rest, more, "0")

    def test_great_loud_moves_are_refused_at_once(self):
        chance = random.Random(5)
        for letters in (2, 3, 4):
            rows = tuple(
                (tuple(chance.sample(range(letters), letters)), tuple(chance.randrange(60) for _ in range(letters)))
                for _ in range(60)
            )
            turn = tuple(range(1, letters)) + (0,)
            move = Move(letters, (turn, rows[0][1]), *rows[1:])
            self.refused_with(TooMany(60), ring_length, move, "0" * 200)
            self.refused_with(TooMany(60), ring_rests, move)
        circles = joined_move((1, 2, 3, 0), *[ring_move(many, 4) for many in (13, 14, 15, 17)])
        self.refused_with(TooMany(60), ring_rest, circles, "0")


class Often(Case):

    def test_against_moves_done_again_and_again(self):
        for move in MOVES[::2]:
            for text in random_texts(3, move.letters, (0, 1, 2, 4)):
                come, back = text, text
                for number in range(20):
                    self.assertEqual(led_often(move, text, number), come)
                    self.assertEqual(led_often(move, text, -number), back)
                    come, back = move(come), (~move)(back)

    def test_great_numbers(self):
        for move in MOVES:
            for text in random_texts(4, move.letters, (1, 3, 40, 200)):
                many = ring_length(move, text)
                for number in (10 ** 60 - 1, 1 - 10 ** 60, 10 ** 30 + 7):
                    come = led_often(move, text, number)
                    self.assertEqual(led_often(move, come, -number), text)
                    self.assertEqual(led_often(move, move(text), number), move(come))
                    if many < 10 ** 60:
                        self.assertEqual(led_often(move, text, number % many), come)
        number = int("123456789" * 6)
        self.assertEqual(int(led_often(ADD, "0" * 200, number)[::-1], 2), number)
        self.assertEqual(int(led_often(ADD, "0" * 200, -number)[::-1], 2), 2 ** 200 - number)

    def test_times_against_rings(self):
        for move in MOVES[::2]:
            for length in range(4 if move.letters == 2 else 3):
                for text, other in itertools.product(all_texts(move.letters, length), repeat=2):
                    ring = model_ring(move, text)
                    self.assertEqual(times(move, text, other), ring.index(other) if other in ring else None)

    def test_times_of_long_texts(self):
        for move in MOVES:
            for text in random_texts(5, move.letters, (6, 60, 200)):
                for number in (0, 1, 5, 10 ** 20, 10 ** 59):
                    told = times(move, text, led_often(move, text, number))
                    self.assertEqual(told, number % ring_length(move, text))
        self.assertEqual(times(ADD, "0" * 200, "1" * 200), 2 ** 200 - 1)
        self.assertIsNone(times(move_of(HANOI, "a"), "2" * 199 + "0", "2" * 200))

    def test_unlike_lengths(self):
        self.refused(InvalidText, times, ADD, "0", "00")
        self.refused(InvalidText, times, ADD, "", "0")
        self.refused(InvalidText, times, ADD, "0" * 200, "0" * 199)


class Tables(Case):

    def test_in_their_order(self):
        for move in MOVES:
            if len(ring_rests(move)) <= 30:
                rests = ring_rests(move)
                self.assertEqual([rest.rows for rest in rests], model_rests(move))
                self.assertIs(type(rests), tuple)

    def test_tables(self):
        for move in MOVES:
            rests = ring_rests(move)
            forms = [rest.rows for rest in rests]
            told = []
            for rest in rests:
                told.append(tuple(
                    (ring_length(rest, letter), forms.index(ring_rest(rest, letter).rows)) for letter in "0123"[:move.letters]
                ))
            self.assertEqual(ring_table(move), tuple(told))

    def test_counts_against_all_texts(self):
        for move in MOVES:
            for length in range(6 if move.letters == 2 else 4):
                lengths = [len(model_ring(move, text)) for text in all_texts(move.letters, length)]
                told = {many: lengths.count(many) // many for many in sorted(set(lengths))}
                self.assertEqual(list(ring_counts(move, length).items()), list(told.items()))

    def test_counts_of_long_texts(self):
        for move in MOVES:
            for length in (0, 1, 20, 60):
                told = ring_counts(move, length)
                self.assertEqual(sum(many * number for many, number in told.items()), move.letters ** length)
                self.assertEqual(list(told), sorted(told))
        self.assertEqual(ring_counts(ADD, 60), {2 ** 60: 1})
        self.assertEqual(ring_counts(TURNS, 60), {3 ** 60: 1})
        self.assertEqual(ring_counts(idle(4), 60), {1: 4 ** 60})

    def test_counts_share_nothing(self):
        ring_counts(ADD, 3).clear()
        self.assertEqual(ring_counts(ADD, 3), {8: 1})

    def test_too_many_rests(self):
        for call in (ring_rests, ring_table, lambda move: ring_counts(move, 0), lambda move: ring_counts(move, 60)):
            for move in (LAMP_A, GREAT, joined_move(STAY, idle(2), GREAT), stepping_ring(15, 16, 3, 3)):
                self.refused_with(TooMany(60), call, move)

    def test_a_hundred_ring_rests_and_more(self):
        just = stepping_ring(14, 17, 15, 15)
        self.assertEqual([rest.rows for rest in ring_rests(just)], model_rests(just))
        self.assertEqual((len(ring_rests(just)), len(ring_table(just))), (100, 100))
        self.assertEqual(sum(many * number for many, number in ring_counts(just, 60).items()), 4 ** 60)
        more = stepping_ring(14, 17, 14, 17)
        self.assertEqual(len(model_rests(more)), 101)
        for call in (ring_rests, ring_table, lambda move: ring_counts(move, 0)):
            self.refused_with(TooMany(100), call, more)
        self.assertEqual(ring_length(more, "0123" * 50), 2)


class Refused(Case):

    def calls(self):
        return [(ring_rest, "0"), (ring_length, "0"), (ring_texts, "0"), (led_often, "0", 1), (times, "0", "1"),
                (ring_rests,), (ring_table,), (ring_counts, 3)]

    def test_moves_come_first(self):
        for call, *others in self.calls():
            for value in VALUES:
                if not isinstance(value, Move):
                    self.refused(InvalidMove, call, value, *others)
                    self.refused(InvalidMove, call, value, *[value for _ in others])

    def test_wrong_texts(self):
        for move in (ADD, GREAT):
            for value in VALUES:
                if not is_text(2, value):
                    for call in (ring_rest, ring_length, ring_texts):
                        self.refused(InvalidText, call, move, value)
                    self.refused(InvalidText, led_often, move, value, 1)
                    self.refused(InvalidText, led_often, move, value, value)
                    self.refused(InvalidText, times, move, value, "0")
                    self.refused(InvalidText, times, move, "0", value)
                if type(value) is not int or abs(value) >= 10 ** 60:
                    self.refused_with(InvalidNumber(value), led_often, move, "0", value)
                if type(value) is not int or not 0 <= value <= 60:
                    self.refused_with(InvalidNumber(value), ring_counts, move, value)
        self.refused_with(InvalidNumber(61), ring_counts, LAMP_A, 61)
        self.refused_with(InvalidNumber(BIG), led_often, LAMP_A, "0" * 9, BIG)
        self.refused(InvalidText, times, GREAT, "0", "00")

    def test_nothing_is_changed(self):
        told = str(GREAT)
        self.refused_with(TooMany(60), ring_rests, GREAT)
        ring_counts(ADD, 5), led_often(ADD, "01", 7)
        self.assertEqual(str(GREAT), told)
