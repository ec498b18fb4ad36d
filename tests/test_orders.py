"""Orders of moves, measures, and the papers that show them."""

import itertools
import random
from math import lcm

from support import (
    BIG, FOLDED, GRAY, HANOI, LAMP, ODD, STAY, SWAP, VALUES, Case, all_texts, circle_move, quiet_machines, random_moves,
    ring_move, short_texts, stepping_ring,
)
from textmovers.errors import InvalidMove, InvalidNumber, TooMany
from textmovers.machine.known import counter
from textmovers.move.moves import Move, first_turned, idle, joined_move, move_of
from textmovers.move.tables import least_rows, product_rows
from textmovers.move.words import word_move
from textmovers.ring.orders import is_idle_after, is_order_paper, measures, order, order_paper
from textmovers.ring.rings import ring_length, ring_rest, ring_rests, ring_table

ADD = move_of(ODD, "a")
TURNS = word_move(HANOI, (("a", 1), ("b", 1)))
LAMP_A = move_of(LAMP, "a")
GREAT = joined_move(SWAP, ring_move(8), ring_move(9))
SIX = joined_move((1, 0, 2), first_turned(3, (1, 2, 0)), idle(3), first_turned(3, (1, 0, 2)))


def tame(move):
    """Whether the move has few ring-rests, and they can be told."""
    try:
        return len(ring_rests(move)) <= 40
    except TooMany:
        return False


def some_moves():
    """Moves with orders and without."""
    found = [move_of(machine, state) for machine in (ODD, GRAY, HANOI, FOLDED, counter(3), counter(4)) for state in machine]
    found += [~ADD, ADD * ADD, TURNS, SIX, ~SIX, idle(3), circle_move(4), circle_move(3, 3), ring_move(7), stepping_ring(5, 6, 4, 3)]
    chance = random.Random(2)
    for machine in quiet_machines(31, 40, sizes=(2, 3, 4)):
        found.append(word_move(machine, tuple((chance.choice(machine.states), 1) for _ in range(3))))
    for letters in (2, 3, 4):
        found += random_moves(letters + 70, letters, 25, 3)
    return [move for move in found if tame(move)]


MOVES = some_moves()
WITH = [move for move in MOVES if order(move) is not None]
WITHOUT = [move for move in MOVES if order(move) is None]


def model_order(move, most):
    """The least number up to most after which the move is idle, by powers one after the other."""
    rows = move.rows
    for number in range(1, most + 1):
        if rows == idle(move.letters).rows:
            return number
        rows = least_rows(product_rows(rows, move.rows), 10 ** 9)
    return None


def is_model_text(letters, value):
    return type(value) is str and len(value) <= 200 and all(sign in "0123"[:letters] for sign in value)


def is_model_spine(move, ahead, loop):
    """What the document says of a spine."""
    if not is_model_text(move.letters, ahead) or not is_model_text(move.letters, loop) or loop == "":
        return False
    rest = ring_rest(move, ahead)
    return ring_length(rest, loop) >= 2 and ring_rest(rest, loop) == rest


def is_model_paper(move, value):
    """What the document says of a paper of an order."""
    if type(value) is not tuple or not value or type(value[0]) is not str:
        return False
    if value[0] == "spine":
        return len(value) == 3 and is_model_spine(move, *value[1:])
    if value[0] != "order" or len(value) != 4:
        return False
    _, number, told, texts = value
    table = ring_table(move)
    if type(number) is not int or type(told) is not tuple or len(told) != len(table) or type(texts) is not tuple:
        return False
    if any(type(one) is not int or one < 1 for one in told) or told[0] != number:
        return False
    if any(one % (length * told[behind]) for one, pairs in zip(told, table) for length, behind in pairs):
        return False
    if not all(is_model_text(move.letters, text) for text in texts):
        return False
    return lcm(*[ring_length(move, text) for text in texts]) == number


class Orders(Case):

    def test_there_are_both(self):
        self.assertGreater(len({order(move) for move in WITH}), 5)
        self.assertGreater(len(WITH), 40)
        self.assertGreater(len(WITHOUT), 15)

    def test_against_powers(self):
        for move in WITH:
            told = order(move)
            if told <= 60:
                self.assertEqual(model_order(move, 60), told)
        for move in WITHOUT:
            if move == ADD or move.letters == 2:
                self.assertIsNone(model_order(move, 12))

    def test_against_rings(self):
        for move in WITH:
            lengths = [ring_length(move, text) for text in short_texts(move.letters, 5 if move.letters == 2 else 3)]
            self.assertEqual(order(move) % lcm(*lengths), 0)
        for move in WITHOUT:
            ahead, loop = order_paper(move)[1:]
            lengths = [ring_length(move, ahead + loop * many) for many in range(4) if len(ahead + loop * many) <= 200]
            rest = ring_rest(move, ahead)
            self.assertEqual(lengths, [lengths[0] * ring_length(rest, loop) ** many for many in range(len(lengths))])

    def test_measures_are_the_orders_of_all_ring_rests(self):
        for move in MOVES:
            told = measures(move)
            if order(move) is None:
                self.assertIsNone(told)
            else:
                self.assertEqual(told, tuple(order(rest) for rest in ring_rests(move)))
                self.assertEqual(told[0], order(move))

    def test_none_exactly_where_there_is_a_spine(self):
        for move in MOVES:
            texts = short_texts(move.letters, 3 if move.letters == 2 else 2)
            spines = [pair for pair in itertools.product(texts, repeat=2) if is_model_spine(move, *pair)]
            if order(move) is None:
                self.assertTrue(is_model_spine(move, *order_paper(move)[1:]))
            else:
                self.assertEqual(spines, [])

    def test_some_orders(self):
        self.assertEqual([order(idle(letters)) for letters in (2, 3, 4)], [1, 1, 1])
        self.assertEqual(measures(idle(2)), (1,))
        self.assertEqual([order(first_turned(4, turn)) for turn in ((1, 2, 3, 0), (1, 2, 0, 3), (1, 0, 3, 2))], [4, 3, 2])
        self.assertEqual(order(ring_move(60)), 2)
        self.assertEqual(order(ring_move(60, 4)), 2)
        # A product of states of finite order with none.
        self.assertEqual([order(move_of(HANOI, state)) for state in "ab"], [2, 2])
        self.assertIsNone(order(TURNS))

    def test_great_orders(self):
        move = first_turned(4, (1, 2, 3, 0))
        numbers = [4]
        for at in range(28):
            move = joined_move((1, 2, 3, 0) if at % 2 else (1, 2, 0, 3), move, idle(4), idle(4), idle(4))
            numbers.append(numbers[-1] * (4 if at % 2 else 3))
            self.assertEqual(order(move), numbers[-1])
        self.assertEqual(sorted(measures(move)), [1, *numbers])
        self.assertGreater(numbers[-1], 10 ** 15)
        self.assertIs(is_idle_after(move, numbers[-1] * 7), True)
        self.assertIs(is_idle_after(move, numbers[-1] // 2), False)
        paper = order_paper(move)
        self.assertTrue(is_model_paper(move, paper) and is_order_paper(move, paper))

    def test_idle_after(self):
        for move in MOVES:
            told = order(move)
            self.assertIs(is_idle_after(move, 0), True)
            for number in (*range(-12, 13), 10 ** 59, 1 - 10 ** 60, 10 ** 60 - 1, 2 ** 190):
                self.assertIs(is_idle_after(move, number), number == 0 if told is None else number % told == 0)

    def test_sixty_rests_and_a_hundred_ring_rests(self):
        just = stepping_ring(14, 17, 15, 15)
        self.assertEqual((order(just), len(measures(just)), is_idle_after(just, 4)), (4, 100, True))
        self.assertIs(is_order_paper(just, order_paper(just)), True)
        calls = [(order,), (measures,), (is_idle_after, 0), (is_idle_after, 3), (order_paper,), (is_order_paper, None)]
        for move, limit in ((GREAT, 60), (LAMP_A, 60), (stepping_ring(15, 16, 3, 3), 60), (stepping_ring(14, 17, 14, 17), 100)):
            for call, *others in calls:
                self.refused_with(TooMany(limit), call, move, *others)


class Papers(Case):

    def test_papers_that_are_told(self):
        for move in MOVES:
            paper = order_paper(move)
            self.assertTrue(is_model_paper(move, paper), paper)
            self.assertIs(is_order_paper(move, paper), True)
            self.assertEqual(order_paper(move), paper)
            self.assertEqual(paper[0], "spine" if order(move) is None else "order")
            if paper[0] == "order":
                self.assertEqual(paper[1:3], (order(move), measures(move)))

    def near(self, chance, move, paper):
        """Values near a paper."""
        letters = "0123"[:move.letters]
        if paper[0] == "order":
            _, number, told, texts = paper
            for factor in (2, 3, 6):
                yield "order", number * factor, tuple(one * factor for one in told), texts
                yield "order", number * factor, (number * factor, *told[1:]), texts
                yield "order", number, (number, *[one * factor for one in told[1:]]), texts
            for other in (number + 1, number - 1, -number, number * BIG, 0, None, True, str(number)):
                yield "order", other, told, texts
                yield "order", other, (other, *told[1:]), texts
                yield "order", number, (*told[:-1], other), texts
            for other in (told[:-1], (*told, 1), told[::-1], list(told), None, (), (1,) * len(told)):
                yield "order", number, other, texts
            for text in [*short_texts(move.letters, 2), "0" * 200, "0" * 201, "9", None, 0]:
                yield "order", number, told, (*texts, text)
                yield "order", number, told, (text,)
                yield "order", number, told, (text,) * 3
            for other in (texts[1:], texts * 2, texts[::-1], list(texts), None, "0", ()):
                yield "order", number, told, other
            yield "spine", *(texts or ("",)), "0"
        else:
            _, ahead, loop = paper
            for text in [*short_texts(move.letters, 3), loop, loop * 2, loop[1:] + loop[:1], ahead + loop, None, 0, "9",
                         loop * 200, loop[:-1]]:
                yield "spine", ahead, text
                yield "spine", text, loop
                yield "spine", ahead + loop[:1], text
            yield "spine", ahead + loop, loop
            yield "spine", loop, ahead
            yield "order", 1, (1,) * len(ring_table(move)), ()
            yield "order", 4, (4,) * len(ring_table(move)), (loop,)
        for value in VALUES:
            yield value
            yield (paper[0], value)
            yield (*paper, value)
            yield (value, *paper[1:])
            yield (*paper[:-1], value)
        yield list(paper)
        yield paper[1:]
        yield ("Order", *paper[1:])

    def test_values_near_papers(self):
        chance = random.Random(3)
        met = {True: 0, False: 0}
        for move in [*WITH[::5], *WITHOUT[::3], SIX, idle(2)]:
            for value in self.near(chance, move, order_paper(move)):
                judged = is_order_paper(move, value)
                self.assertIs(judged, is_model_paper(move, value), (move.rows, value))
                met[judged] += 1
        self.assertGreater(met[True], 150)
        self.assertGreater(met[False], 1000)

    def test_just_one_form(self):
        for one, other in itertools.product([move for move in MOVES if move.letters == 2][:20], repeat=2):
            paper = order_paper(other)
            self.assertIs(is_order_paper(one, paper), is_model_paper(one, paper))
            if (order(one) is None) != (order(other) is None):
                self.assertIs(is_order_paper(one, paper), False)

    def test_measures_can_be_greater(self):
        # Those of other ring-rests than the move itself need not be their orders.
        move = joined_move((1, 0, 2, 3), idle(4), idle(4), first_turned(4, (1, 2, 3, 0)), first_turned(4, (1, 2, 0, 3)))
        rests = ring_rests(move)
        self.assertEqual((order(move), measures(move)), (12, (12, 1, 4, 3)))
        self.assertEqual(len(rests), 4)
        for told in ((12, 1, 4, 3), (12, 1, 12, 12), (12, 2, 4, 6), (12, 1, 4, 12)):
            value = ("order", 12, told, ("20", "30"))
            self.assertIs(is_order_paper(move, value), is_model_paper(move, value))
        self.assertIs(is_order_paper(move, ("order", 12, (12, 1, 12, 12), ("20", "30"))), True)
        self.assertIs(is_order_paper(move, ("order", 12, (12, 1, 8, 3), ("20", "30"))), False)
        self.assertIs(is_order_paper(move, ("order", 12, (12, 1, 4, 3), ("20", "3"))), False)
        self.assertIs(is_order_paper(move, ("order", 12, (12, 1, 4, 3), ("20", "30", "0", "20", ""))), True)

    def test_great_integers(self):
        great = 2 * 10 ** 300
        value = ("order", great, (great, 1), ("0",))
        self.assertIs(is_order_paper(first_turned(2, SWAP), value), False)
        self.assertIs(is_order_paper(first_turned(2, SWAP), ("order", 2, (2, 1), ("0",))), True)
        self.assertIs(is_order_paper(first_turned(2, SWAP), ("order", 2, (2, great), ("0",))), False)

    def test_all_texts_of_a_spine(self):
        for ahead, loop in itertools.product(short_texts(2, 3), repeat=2):
            for move in (ADD, GRAY and move_of(GRAY, "b"), move_of(FOLDED, "a")):
                value = ("spine", ahead, loop)
                self.assertIs(is_order_paper(move, value), is_model_paper(move, value))


class Refused(Case):

    def test_moves_come_first(self):
        for value in VALUES:
            if not isinstance(value, Move):
                for call in (order, measures, order_paper):
                    self.refused(InvalidMove, call, value)
                self.refused(InvalidMove, is_idle_after, value, value)
                self.refused(InvalidMove, is_order_paper, value, value)

    def test_numbers(self):
        for value in VALUES:
            if type(value) is not int or abs(value) >= 10 ** 60:
                for move in (ADD, SIX, GREAT, LAMP_A):
                    self.refused_with(InvalidNumber(value), is_idle_after, move, value)

    def test_nothing_is_changed(self):
        told = [str(move) for move in (GREAT, SIX)]
        self.refused_with(TooMany(60), order, GREAT)
        measures(SIX), order_paper(SIX), is_idle_after(SIX, 5)
        self.assertEqual([str(move) for move in (GREAT, SIX)], told)
