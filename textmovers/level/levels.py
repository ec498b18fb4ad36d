"""Texts of one length: which words lead to one another, and the turns that words make of all of them."""

from textmovers.base.letters import check_length, check_text, digits_of, index_of, text_number
from textmovers.base.whole import is_between
from textmovers.errors import TooMany
from textmovers.grow.busy import check_quiet
from textmovers.level.groups import TurnGroup
from textmovers.level.hanging import busy_rests, first_hanging, longer_hanging, piece_count
from textmovers.machine.machines import check_machine
from textmovers.move.moves import check_move, move_of

MAX_TEXTS = 256
MAX_POINTS = 32


def level_turn(move, length):
    """For each text of the length, in order, the index of the text to which the move leads it."""
    check_move(move)
    check_length(length)
    check_number(move.letters, length, MAX_TEXTS)
    return turn_of_level(move, length)


def pieces(machine, length):
    """The pieces of the texts of the length, ascending."""
    check_machine(machine)
    check_length(length)
    check_number(machine.letters, length, MAX_TEXTS)
    met = {}
    found = []
    for text in level_texts(machine.letters, length):
        if text not in met:
            piece = reached_texts(machine, text)
            found.append(piece)
            for one in piece:
                met[one] = True
    return tuple(found)


def piece_of(machine, text):
    """The texts of the piece of a text, ascending."""
    check_machine(machine)
    check_text(machine.letters, text)
    return reached_texts(machine, text)


def piece_number(machine, length):
    """The number of the pieces of the texts of the length."""
    check_machine(machine)
    check_length(length)
    check_quiet(machine)
    rests = busy_rests(machine)
    hanging = first_hanging(rests)
    for _ in range(length):
        hanging = longer_hanging(hanging, rests, machine.letters)
    return piece_count(hanging)


def parting_length(machine):
    """The least length at which there are several pieces, or None if there is none."""
    check_machine(machine)
    check_quiet(machine)
    rests = busy_rests(machine)
    hanging = first_hanging(rests)
    length = 0
    seen = {}
    # While all is one piece, what comes next follows from the open texts alone.
    while hanging not in seen:
        if piece_count(hanging) > 1:
            return length
        seen[hanging] = True
        hanging = longer_hanging(hanging, rests, machine.letters)
        length += 1
    return None


def level_size(machine, length):
    """The number of the level turns of the length."""
    return checked_group(machine, length).order()


def is_level_turn(machine, length, value):
    """Whether the value tells one of the level turns of the length."""
    group = checked_group(machine, length)
    many = text_number(machine.letters, length)
    if not isinstance(value, tuple) or len(value) != many:
        return False
    if not all([is_between(part, 0, many - 1) for part in value]) or len(set(value)) < many:
        return False
    return group.has(value)


def check_number(letters, length, most):
    """Refuses a length that has more than so many texts."""
    if text_number(letters, length) > most:
        raise TooMany(most)


def level_texts(letters, length):
    """All texts of the length, in order."""
    return [digits_of(letters, length, index) for index in range(text_number(letters, length))]


def turn_of_level(move, length):
    """The level turn of a move at a length."""
    return tuple([index_of(move.letters, move(text)) for text in level_texts(move.letters, length)])


def reached_texts(machine, text):
    """The texts to which words lead a text, ascending; TooMany if they are too many to be told."""
    met = {text: True}
    order = [text]
    at = 0
    # Each state only turns finitely many texts about, so undone ones reach no more.
    while at < len(order):
        for state in machine:
            come, _ = machine.step(state, order[at])
            if come not in met:
                met[come] = True
                order.append(come)
        at += 1
        if len(order) > MAX_TEXTS:
            raise TooMany(MAX_TEXTS)
    return tuple(sorted([str(one) for one in order]))


def checked_group(machine, length):
    """The group of the level turns; refuses what is no machine, no length, and a length of too many texts."""
    check_machine(machine)
    check_length(length)
    check_number(machine.letters, length, MAX_POINTS)
    turns = [turn_of_level(move_of(machine, state), length) for state in machine]
    return TurnGroup(text_number(machine.letters, length), turns)
