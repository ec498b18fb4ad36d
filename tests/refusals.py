"""Wrong arguments: one and several at once, of every kind, held against what the document says of each place."""

import random

from support import VALUES
from textmovers.base.letters import is_name, is_text
from textmovers.endless.texts import Endless
from textmovers.errors import (
    InvalidMachine, InvalidMove, InvalidName, InvalidNumber, InvalidText, InvalidWord, UnknownName,
)
from textmovers.machine.machines import Machine
from textmovers.move.moves import Move
from textmovers.move.words import is_word


def is_integer(value, low, high):
    """Whether the value is an integer of these, but neither True nor False."""
    return type(value) is int and low <= value <= high


# What is wrong with the argument at a place, or None; the arguments ahead of it are right.

def machine_place(args, at):
    return None if isinstance(args[at], Machine) else InvalidMachine("")


def move_place(args, at):
    return None if isinstance(args[at], Move) else InvalidMove("")


def word_place(args, at):
    return None if is_word(args[0], args[at]) else InvalidWord("")


def text_place(args, at):
    return None if is_text(args[0].letters, args[at]) else InvalidText("")


def same_length_place(args, at):
    return text_place(args, at) or (None if len(args[at]) == len(args[at - 1]) else InvalidText(""))


def endless_place(args, at):
    right = isinstance(args[at], Endless) and args[at].letters == args[0].letters
    return None if right else InvalidText("")


def name_place(args, at):
    return None if is_name(args[at]) else InvalidName("")


def number_place(low, high):
    return lambda args, at: None if is_integer(args[at], low, high) else InvalidNumber(args[at])


def any_place(args, at):
    return None


def known_place(names):
    """A place for one of the names that are told."""
    return lambda args, at: None if args[at] in list(names) else UnknownName(args[at])


def hold_refusals(case, call, *places, then=lambda args: None, seed=1, many=150, extra=()):
    """For values of every kind at each place, and at several, the call raises just the first error that is told.

    Each place is a pair of values that are right there and of a function that tells
    what is wrong with an argument; then tells what is wrong if all are right.
    """
    chance = random.Random(seed)
    values = [*VALUES, *extra]
    trials = []
    for at in range(len(places)):
        for value in values:
            args = [chance.choice(right) for right, _ in places]
            args[at] = value
            trials.append(args)
    for _ in range(many):
        trials.append([chance.choice(right) if chance.random() < 0.5 else chance.choice(values) for right, _ in places])
    refused = 0
    for args in trials:
        told = expected(args, places, then)
        if told is None:
            call(*args)
        else:
            refused += 1
            case.refused_with(told, call, *args)
    case.assertGreater(refused, len(values) // 3)


def expected(args, places, then):
    """The first error for these arguments, or None."""
    for at, (_, wrong) in enumerate(places):
        told = wrong(args, at)
        if told is not None:
            return told
    return then(args)
