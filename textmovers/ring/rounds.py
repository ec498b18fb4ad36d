"""Moves that go round all texts of a length in one ring, or of all lengths."""

from math import gcd

from textmovers.base.letters import check_length, check_text, is_text, text_number
from textmovers.base.whole import is_between, is_passed
from textmovers.errors import InvalidNumber, InvalidOperation, TooMany
from textmovers.move.moves import are_moves_of, check_move, least_move
from textmovers.ring.rests import RingRests
from textmovers.ring.sums import far_sum, next_sums
from textmovers.ring.turning import led_by_spots, times_by_spots

MAX_ROUNDS = 100
MAX_SUMS = 1000


def round_rests(move):
    """The round rests of the move, in order."""
    check_move(move)
    rests, spots, _ = round_spots(move, None)
    return moves_at(rests, spots)


def first_stop(move):
    """The least length that the move does not go round, or None if it goes round all."""
    check_move(move)
    rests, spots, _ = round_spots(move, None)
    return None if turns_round(rests, spots[-1]) else len(spots)


def goes_round(move, length=None):
    """Whether the move goes round the length, or all lengths."""
    check_move(move)
    if length is not None:
        check_length(length)
    rests, spots, _ = round_spots(move, length)
    return all([turns_round(rests, spot) for spot in spots])


def round_paper(move):
    """A paper that shows whether the move goes round all lengths."""
    check_move(move)
    rests, spots, _ = round_spots(move, None)
    if turns_round(rests, spots[-1]):
        return "round", moves_at(rests, spots)
    ring = rests.ring_at(spots[-1], 0)
    outside = [letter for letter in range(move.letters) if letter not in ring]
    ahead = "0" * (len(spots) - 1)
    return "apart", ahead + "0", ahead + str(outside[0])


def is_round_paper(move, value):
    """Whether the value is such a paper, whoever made it."""
    check_move(move)
    if not isinstance(value, tuple) or not value:
        return False
    if value[0] == "round" and len(value) == 2:
        return are_round_moves(move, value[1])
    if value[0] == "apart" and len(value) == 3:
        return are_apart_texts(move, value[1], value[2])
    return False


def place_in_round(move, text):
    """How often the move must be done until it leads the first text of the length to this one."""
    check_move(move)
    check_text(move.letters, text)
    rests, spots = spots_along(move, len(text))
    return times_by_spots(rests, spots, "0" * len(text), text)


def text_in_round(move, length, place):
    """The text to which so many times the move lead the first text of the length."""
    check_move(move)
    check_length(length)
    if not is_between(place, 0, text_number(move.letters, length) - 1):
        raise InvalidNumber(place)
    rests, spots = spots_along(move, length)
    return led_by_spots(rests, spots, "0" * length, place)


def has_rotations(move):
    """Whether all turns of the least form are rotations."""
    check_move(move)
    return all([is_rotation(turn) for turn, _ in move.rows])


def level_sum(move, length):
    """The level sum of the move at a length."""
    check_move(move)
    if not is_passed(length) or length < 0:
        raise InvalidNumber(length)
    check_rotations(move)
    return far_sum(move.rows, first_sums(move), length, move.letters)


def stop_by_sums(move):
    """The least length that the move does not go round, by level sums alone, or None if it goes round all."""
    check_move(move)
    check_rotations(move)
    sums = first_sums(move)
    seen = {}
    for length in range(MAX_SUMS + 1):
        if gcd(sums[0], move.letters) != 1:
            return length + 1
        if sums in seen:
            return None
        seen[sums] = True
        sums = next_sums(move.rows, sums, move.letters)
    raise TooMany(MAX_SUMS)


def turns_round(rests, spot):
    """Whether a ring-rest turns the letters in one ring."""
    return len(rests.ring_at(spot, 0)) == len(rests.row_at(spot)[0])


def moves_at(rests, spots):
    """The ring-rests at these spots."""
    return tuple([least_move(len(rests.row_at(spot)[0]), rests.form(spot)) for spot in spots])


def round_spots(move, most):
    """The ring-rests, the spots of the round rests, no more than most, and the place at which they go on again."""
    rests = RingRests(move.rows)
    spots = []
    spot = (0, 0)
    while len(spots) != most:
        number = rests.number(spot)
        if number < len(spots):
            return rests, spots, number
        if len(spots) == MAX_ROUNDS:
            raise TooMany(MAX_ROUNDS)
        spots.append(spot)
        if not turns_round(rests, spot):
            return rests, spots, None
        # The next one is not looked at if no more are told.
        if len(spots) != most:
            spot = rests.told_behind(spot, 0)
    return rests, spots, None


def spots_along(move, length):
    """The ring-rests, and the spots of those behind all beginnings of the first text of a length that is gone round."""
    rests, spots, again = round_spots(move, length)
    if not all([turns_round(rests, spot) for spot in spots]):
        raise InvalidOperation("the move does not go round the length")
    many = len(spots)
    while len(spots) < length:
        spots.append(spots[len(spots) - many + again])
    return rests, spots


def are_round_moves(move, value):
    """Whether the value is a tuple of unlike moves, this one among them, that go round letter by letter."""
    if not isinstance(value, tuple) or not are_moves_of(value, move.letters):
        return False
    forms = {one.rows: RingRests(one.rows) for one in value}
    if len(forms) < len(value) or move.rows not in forms:
        return False
    if not all([turns_round(forms[form], (0, 0)) for form in forms]):
        return False
    return all([leads_into(forms[form], forms) for form in forms])


def leads_into(rests, forms):
    """Whether the ring-rest of the first move behind some letter is one of these."""
    for letter in range(len(rests.row_at((0, 0))[0])):
        behind = rests.behind((0, 0), letter)
        if behind is not None and rests.form(behind) in forms:
            return True
    return False


def are_apart_texts(move, text, other_text):
    """Whether both are texts of one length in unlike rings, which ring-rests that can be told show."""
    if not is_text(move.letters, text) or not is_text(move.letters, other_text) or len(text) != len(other_text):
        return False
    rests = RingRests(move.rows)
    spots = [(0, 0)]
    for sign in text[:-1]:
        behind = rests.behind(spots[-1], int(sign))
        if behind is None:
            return False
        spots.append(behind)
    return times_by_spots(rests, spots, text, other_text) is None


def is_rotation(turn):
    """Whether the turn leads each letter equally far on."""
    return all([come == (letter + turn[0]) % len(turn) for letter, come in enumerate(turn)])


def check_rotations(move):
    """Refuses a move that has a turn that is no rotation."""
    if not has_rotations(move):
        raise InvalidOperation("some turn is no rotation")


def first_sums(move):
    """The level sums of all rests at the length 0: the rotations of their turns."""
    return tuple([turn[0] for turn, _ in move.rows])
