"""The rings of texts under a move, and the ring-rests that tell them."""

from textmovers.base.letters import check_text
from textmovers.base.whole import is_between, is_passed
from textmovers.errors import InvalidNumber, InvalidText, TooMany
from textmovers.move.moves import check_move, least_move
from textmovers.ring.rests import RingRests
from textmovers.ring.turning import led_by_spots, ring_spots, times_by_spots

MAX_RINGS = 100
MAX_SHOWN = 256
MAX_COUNTED = 60


def ring_rest(move, text):
    """The ring-rest of the move behind a text."""
    rests, spots = checked_spots(move, text)
    return least_move(move.letters, rests.form(spots[-1]))


def ring_length(move, text):
    """How many texts the ring of a text has."""
    rests, spots = checked_spots(move, text)
    many = 1
    for spot, sign in zip(spots, text):
        many = many * len(rests.ring_at(spot, int(sign)))
    return many


def ring_texts(move, text):
    """The texts of the ring of a text, in the order of the move, the text itself first."""
    many = ring_length(move, text)
    if many > MAX_SHOWN:
        raise TooMany(MAX_SHOWN)
    ring = [text]
    while len(ring) < many:
        ring.append(move(ring[-1]))
    return tuple(ring)


def led_often(move, text, number):
    """The text to which so many times the move, or its undone one, lead a text."""
    check_move(move)
    check_text(move.letters, text)
    if not is_passed(number):
        raise InvalidNumber(number)
    rests, spots = checked_spots(move, text)
    return led_by_spots(rests, spots, text, number)


def times(move, text, other_text):
    """How often the move must be done at least to lead a text to another one, or None if it never does."""
    check_move(move)
    check_text(move.letters, text)
    check_text(move.letters, other_text)
    if len(other_text) != len(text):
        raise InvalidText("texts of unlike lengths")
    rests, spots = checked_spots(move, text)
    return times_by_spots(rests, spots, text, other_text)


def ring_rests(move):
    """All ring-rests of a move, in their order."""
    rests, spots, _ = rings_of(move)
    return tuple([least_move(move.letters, rests.form(spot)) for spot in spots])


def ring_table(move):
    """For each ring-rest and each letter the length of its ring and the index of the ring-rest behind it."""
    _, _, table = rings_of(move)
    return table


def ring_counts(move, length):
    """How many rings of each length the texts of a length have."""
    check_move(move)
    if not is_between(length, 0, MAX_COUNTED):
        raise InvalidNumber(length)
    _, _, table = rings_of(move)
    # For each ring-rest: how many texts of it have rings of which lengths.
    counts = [{1: 1} if place == 0 else {} for place in range(len(table))]
    for _ in range(length):
        counts = next_text_counts(table, counts)
    told = {}
    for numbers in counts:
        for many in numbers:
            told[many] = told.get(many, 0) + numbers[many]
    return {many: told[many] // many for many in sorted([int(one) for one in told])}


def checked_spots(move, text):
    """The ring-rests of a move, and their spots along a text; refuses what is no move or no text of it."""
    check_move(move)
    check_text(move.letters, text)
    rests = RingRests(move.rows)
    return rests, ring_spots(rests, text)


def rings_of(move):
    """The ring-rests of a move, the spots of all of them in their order, and their table."""
    check_move(move)
    rests = RingRests(move.rows)
    spots = [(0, 0)]
    table = []
    while len(table) < len(spots):
        spot = spots[len(table)]
        pairs = []
        for letter in range(move.letters):
            behind = rests.told_behind(spot, letter)
            number = rests.number(behind)
            if number == len(spots):
                if number == MAX_RINGS:
                    raise TooMany(MAX_RINGS)
                spots.append(behind)
            pairs.append((len(rests.ring_at(spot, letter)), number))
        table.append(tuple(pairs))
    return rests, spots, tuple(table)


def next_text_counts(table, counts):
    """For texts of one letter more, how many texts of each ring-rest have rings of which lengths."""
    told = [{} for _ in table]
    for pairs, numbers in zip(table, counts):
        for length, behind in pairs:
            for many in numbers:
                told[behind][many * length] = told[behind].get(many * length, 0) + numbers[many]
    return told
