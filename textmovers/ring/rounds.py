"""Moves that go round all texts of a length in one ring, or of all lengths."""

from math import gcd

from textmovers.base.letters import check_length, check_text, is_text, text_number
from textmovers.base.whole import is_between, is_passed
from textmovers.errors import InvalidNumber, InvalidOperation, TooMany
from textmovers.move.moves import Move, are_moves_of, check_move
from textmovers.ring.sums import far_sum, next_sums
from textmovers.ring.turning import led_by_forms, letter_ring, ring_form, times_by_forms, told_ring_form

MAX_ROUNDS = 100
MAX_SUMS = 1000


def round_rests(move):
    """The round rests of the move, in order."""
    check_move(move)
    forms, _ = round_forms(move, None)
    return tuple([Move.of(move.letters, form) for form in forms])


def first_stop(move):
    """The least length that the move does not go round, or None if it goes round all."""
    check_move(move)
    forms, _ = round_forms(move, None)
    return None if turns_round(forms[-1]) else len(forms)


def goes_round(move, length=None):
    """Whether the move goes round the length, or all lengths."""
    check_move(move)
    if length is not None:
        check_length(length)
    forms, _ = round_forms(move, length)
    return all([turns_round(form) for form in forms])


def round_paper(move):
    """A paper that shows whether the move goes round all lengths."""
    check_move(move)
    forms, _ = round_forms(move, None)
    if turns_round(forms[-1]):
        return "round", tuple([Move.of(move.letters, form) for form in forms])
    ring = letter_ring(forms[-1], 0)
    outside = [letter for letter in range(move.letters) if letter not in ring]
    ahead = "0" * (len(forms) - 1)
    return "apart", ahead + "0", ahead + str(outside[0])


def is_round_paper(move, value):
    """Whether the value is such a paper, whoever made it."""
    check_move(move)
    if not isinstance(value, tuple) or not value:
        return False
    if value[0] == "round" and len(value) == 2:
        return are_round_moves(move, value[1])
    if value[0] == "apart" and len(value) == 3:
        return are_apart_texts(move, value[1], value[2])
    return False


def place_in_round(move, text):
    """How often the move must be done until it leads the first text of the length to this one."""
    check_move(move)
    check_text(move.letters, text)
    return times_by_forms(forms_along(move, len(text)), "0" * len(text), text)


def text_in_round(move, length, place):
    """The text to which so many times the move lead the first text of the length."""
    check_move(move)
    check_length(length)
    if not is_between(place, 0, text_number(move.letters, length) - 1):
        raise InvalidNumber(place)
    return led_by_forms(forms_along(move, length), "0" * length, place)


def has_rotations(move):
    """Whether all turns of the least form are rotations."""
    check_move(move)
    return all([is_rotation(turn) for turn, _ in move.rows])


def level_sum(move, length):
    """The level sum of the move at a length."""
    check_move(move)
    if not is_passed(length) or length < 0:
        raise InvalidNumber(length)
    check_rotations(move)
    return far_sum(move.rows, first_sums(move), length, move.letters)


def stop_by_sums(move):
    """The least length that the move does not go round, by level sums alone, or None if it goes round all."""
    check_move(move)
    check_rotations(move)
    sums = first_sums(move)
    seen = {}
    for length in range(MAX_SUMS + 1):
        if gcd(sums[0], move.letters) != 1:
            return length + 1
        if sums in seen:
            return None
        seen[sums] = True
        sums = next_sums(move.rows, sums, move.letters)
    raise TooMany(MAX_SUMS)


def turns_round(form):
    """Whether the move turns the letters in one ring."""
    return len(letter_ring(form, 0)) == len(form[0][0])


def round_forms(move, most):
    """The least forms of the round rests, no more than most, and the place at which they go on again, or None."""
    forms = []
    places = {}
    form = move.rows
    while len(forms) != most:
        if form in places:
            return forms, places[form]
        if len(forms) == MAX_ROUNDS:
            raise TooMany(MAX_ROUNDS)
        places[form] = len(forms)
        forms.append(form)
        if not turns_round(form):
            return forms, None
        # The next one is not looked at if no more are told.
        if len(forms) != most:
            form = told_ring_form(form, 0)
    return forms, None


def forms_along(move, length):
    """The round rests behind all beginnings of the first text of a length that the move goes round."""
    forms, again = round_forms(move, length)
    if not all([turns_round(form) for form in forms]):
        raise InvalidOperation("the move does not go round the length")
    many = len(forms)
    while len(forms) < length:
        forms.append(forms[len(forms) - many + again])
    return forms


def are_round_moves(move, value):
    """Whether the value is a tuple of unlike moves, this one among them, that go round letter by letter."""
    if not isinstance(value, tuple) or not are_moves_of(value, move.letters):
        return False
    forms = {one.rows: True for one in value}
    if len(forms) < len(value) or move.rows not in forms:
        return False
    if not all([turns_round(form) for form in forms]):
        return False
    return all([leads_into(form, forms) for form in forms])


def leads_into(form, forms):
    """Whether the ring-rest behind some letter is one of these."""
    return any([ring_form(form, letter) in forms for letter in range(len(form[0][0]))])


def are_apart_texts(move, text, other_text):
    """Whether both are texts of one length in unlike rings, which ring-rests that can be told show."""
    if not is_text(move.letters, text) or not is_text(move.letters, other_text) or len(text) != len(other_text):
        return False
    forms = [move.rows]
    for sign in text[:-1]:
        forms.append(ring_form(forms[-1], int(sign)))
        if forms[-1] is None:
            return False
    return times_by_forms(forms, text, other_text) is None


def is_rotation(turn):
    """Whether the turn leads each letter equally far on."""
    return all([come == (letter + turn[0]) % len(turn) for letter, come in enumerate(turn)])


def check_rotations(move):
    """Refuses a move that has a turn that is no rotation."""
    if not has_rotations(move):
        raise InvalidOperation("some turn is no rotation")


def first_sums(move):
    """The level sums of all rests at the length 0: the rotations of their turns."""
    return tuple([turn[0] for turn, _ in move.rows])
