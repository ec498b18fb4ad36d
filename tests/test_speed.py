"""Calls that once took long: a hundred of each are done in far less time than they took."""

import time
import unittest

from support import FOLDED, HANOI, LAMP, ODD
from textmovers.core.cores import core_paper, settled
from textmovers.core.outlines import outline, outline_power
from textmovers.errors import TooMany
from textmovers.machine.known import folded
from textmovers.move.moves import move_of
from textmovers.move.words import word_move
from textmovers.ring.orders import is_idle_after, is_order_paper, measures, order, order_paper
from textmovers.ring.rings import led_often, ring_counts, ring_rests, ring_table, times

ADD, WILD = move_of(ODD, "a"), move_of(LAMP, "a")
TURNS = word_move(HANOI, (("a", 1), ("b", 1)))
ONE, BOTH = outline(ODD, (("a", 1),)), outline(HANOI, (("a", 1), ("b", 1)))

# Each call with the milliseconds that it once took, and what comes: a limit of TooMany, or whether the result is right.
CALLS = [
    (3, "ring_rests", lambda: ring_rests(WILD), 60),
    (3, "ring_table", lambda: ring_table(WILD), 60),
    (3, "ring_counts", lambda: ring_counts(WILD, 5), 60),
    (3, "order", lambda: order(WILD), 60),
    (3, "measures", lambda: measures(WILD), 60),
    (3, "order_paper", lambda: order_paper(WILD), 60),
    (3, "is_order_paper", lambda: is_order_paper(WILD, 0), 60),
    (3, "is_idle_after", lambda: is_idle_after(WILD, 3), 60),
    (4.5, "times of add", lambda: times(ADD, "0" * 200, "1" * 200), lambda told: told == 2 ** 200 - 1),
    (4.5, "times of turns", lambda: times(TURNS, "0" * 200, "2" * 200), lambda told: 0 < told < 3 ** 200),
    (3.6, "led_often", lambda: led_often(TURNS, "0" * 200, 10 ** 50), lambda told: len(told) == 200),
    (14, "outline_power of ODD", lambda: outline_power(ODD, ONE, 10 ** 30), lambda told: told[0] == 0),
    (7, "outline_power of HANOI", lambda: outline_power(HANOI, BOTH, 10 ** 9), lambda told: told[0] == 0),
    (8, "power to 59", lambda: ADD.power(59), lambda told: told("000000") == "110111"),
    (17, "power to 100", lambda: ADD.power(100), lambda told: told("0000000") == "0010011"),
    (4, "power of turns", lambda: TURNS.power(30), lambda told: told.letters == 3),
    (0.75, "settled", lambda: settled(folded(), (("a", 7), ("b", -7))), lambda told: told == settled(FOLDED, (("a", 7), ("b", -7)))),
    (0.75, "core_paper", lambda: core_paper(folded()), lambda told: len(told[1]) == 7),
]

# What the reference takes, in milliseconds, where the calls took as long as that.
REFERENCE = 1


def reference():
    """Some work without the package, that takes longer on a slow machine."""
    table = {}
    for at in range(4000):
        pair = (at % 61, at % 7)
        table[pair] = table.get(pair, 0) + len([at, pair])
    return sorted(table.values())[-1]


def least_time(call, many, rounds=5):
    """The least time that so many calls take, in milliseconds."""
    least = None
    for _ in range(rounds):
        start = time.perf_counter()
        for _ in range(many):
            call()
        spent = 1000 * (time.perf_counter() - start)
        least = spent if least is None else min(least, spent)
    return least


def outcome(call):
    """What a call returns, or the limit of its TooMany."""
    try:
        return call()
    except TooMany as error:
        return error.limit


class Speed(unittest.TestCase):

    def test_what_comes(self):
        for _, name, call, right in CALLS:
            with self.subTest(call=name):
                told = outcome(call)
                self.assertTrue(told == right if right == 60 else right(told))

    def test_a_hundred_calls_take_less_than_half_the_time(self):
        slow = max(1, least_time(reference, 1, 20) / REFERENCE)
        for once, name, call, _ in CALLS:
            with self.subTest(call=name):
                # Half of what it was, on a machine as fast or faster, and more on a slow one.
                most = 0.5 * once * 100 * slow
                spent = least_time(lambda: outcome(call), 100, 1)
                for _ in range(6):
                    if spent > most:
                        spent = min(spent, least_time(lambda: outcome(call), 100, 1))
                self.assertLess(spent, most)
