"""The rings of texts under a move, and the ring-rests that tell them."""

from textmovers.base.letters import check_text
from textmovers.base.whole import is_between, is_passed
from textmovers.errors import InvalidNumber, InvalidText, TooMany
from textmovers.move.moves import Move, check_move
from textmovers.ring.turning import letter_ring, led_by_forms, ring_forms, times_by_forms, told_ring_form

MAX_RINGS = 100
MAX_SHOWN = 256
MAX_COUNTED = 60


def ring_rest(move, text):
    """The ring-rest of the move behind a text."""
    forms = checked_forms(move, text)
    return Move.of(move.letters, forms[-1])


def ring_length(move, text):
    """How many texts the ring of a text has."""
    forms = checked_forms(move, text)
    many = 1
    for form, sign in zip(forms, text):
        many = many * len(letter_ring(form, int(sign)))
    return many


def ring_texts(move, text):
    """The texts of the ring of a text, in the order of the move, the text itself first."""
    many = ring_length(move, text)
    if many > MAX_SHOWN:
        raise TooMany(MAX_SHOWN)
    ring = [text]
    while len(ring) < many:
        ring.append(move(ring[-1]))
    return tuple(ring)


def led_often(move, text, number):
    """The text to which so many times the move, or its undone one, lead a text."""
    check_move(move)
    check_text(move.letters, text)
    if not is_passed(number):
        raise InvalidNumber(number)
    return led_by_forms(ring_forms(move, text), text, number)


def times(move, text, other_text):
    """How often the move must be done at least to lead a text to another one, or None if it never does."""
    check_move(move)
    check_text(move.letters, text)
    check_text(move.letters, other_text)
    if len(other_text) != len(text):
        raise InvalidText("texts of unlike lengths")
    return times_by_forms(ring_forms(move, text), text, other_text)


def ring_rests(move):
    """All ring-rests of a move, in their order."""
    forms, _ = rings_of(move)
    return tuple([Move.of(move.letters, form) for form in forms])


def ring_table(move):
    """For each ring-rest and each letter the length of its ring and the index of the ring-rest behind it."""
    _, table = rings_of(move)
    return table


def ring_counts(move, length):
    """How many rings of each length the texts of a length have."""
    check_move(move)
    if not is_between(length, 0, MAX_COUNTED):
        raise InvalidNumber(length)
    _, table = rings_of(move)
    # For each ring-rest: how many texts of it have rings of which lengths.
    counts = [{1: 1} if place == 0 else {} for place in range(len(table))]
    for _ in range(length):
        counts = next_text_counts(table, counts)
    told = {}
    for numbers in counts:
        for many in numbers:
            told[many] = told.get(many, 0) + numbers[many]
    return {many: told[many] // many for many in sorted([int(one) for one in told])}


def checked_forms(move, text):
    """The forms of a text, and the ring-rest behind it; refuses what is no move or no text of it."""
    check_move(move)
    check_text(move.letters, text)
    return ring_forms(move, text)


def rings_of(move):
    """The least forms of all ring-rests of a move, and their table."""
    check_move(move)
    forms = [move.rows]
    places = {move.rows: 0}
    table = []
    while len(table) < len(forms):
        form = forms[len(table)]
        pairs = []
        for letter in range(move.letters):
            behind = told_ring_form(form, letter)
            if behind not in places:
                if len(forms) == MAX_RINGS:
                    raise TooMany(MAX_RINGS)
                places[behind] = len(forms)
                forms.append(behind)
            pairs.append((len(letter_ring(form, letter)), places[behind]))
        table.append(tuple(pairs))
    return forms, tuple(table)


def next_text_counts(table, counts):
    """For texts of one letter more, how many texts of each ring-rest have rings of which lengths."""
    told = [{} for _ in table]
    for pairs, numbers in zip(table, counts):
        for length, behind in pairs:
            for many in numbers:
                told[behind][many * length] = told[behind].get(many * length, 0) + numbers[many]
    return told
