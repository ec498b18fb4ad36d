"""Ring-rests of moves that are told by their least forms, and the ways along them.

The forms of a text are the ring-rests behind its beginnings, the move itself
first: each of them turns one letter of the text.
"""

from textmovers.base.letters import MAX_RESTS
from textmovers.base.rows import led_from
from textmovers.errors import TooMany
from textmovers.grow.ranks import still_place
from textmovers.move.tables import least_rows, undone_rows

# One in so many products is tried with a text of so many letters.
TRIED = 10
TRIED_LETTERS = 60


def letter_ring(form, letter):
    """The letters to which the move leads a letter, done again and again, this letter first."""
    turn, _ = form[0]
    ring = [letter]
    while turn[ring[-1]] != letter:
        ring.append(turn[ring[-1]])
    return ring


def ring_form(form, letter):
    """The least form of the ring-rest behind a letter, or None if it has more than sixty rows."""
    _, nexts = form[0]
    still = still_place(form)
    first = tuple([nexts[one] for one in letter_ring(form, letter) if nexts[one] != still])
    numbers = {first: 0}
    order = [first]
    told = []
    unlike = {}
    text = trial_letters(len(nexts))
    while len(told) < len(order):
        places = order[len(told)]
        # There can be far too many products to look at each, but most of them
        # are seen to be unlike by what they do to one text.
        if len(told) % TRIED == 0:
            unlike[led_along(form, places, text)] = True
        if len(unlike) > MAX_RESTS:
            return None
        turn = []
        behind = []
        for one in range(len(nexts)):
            come, left = passed_places(form, places, one)
            left = tuple([place for place in left if place != still])
            if left not in numbers:
                numbers[left] = len(order)
                order.append(left)
            turn.append(come)
            behind.append(numbers[left])
        told.append((tuple(turn), tuple(behind)))
    return least_rows(told, MAX_RESTS)


def told_ring_form(form, letter):
    """The least form of the ring-rest behind a letter; TooMany if it has more than sixty rows."""
    behind = ring_form(form, letter)
    if behind is None:
        raise TooMany(MAX_RESTS)
    return behind


def passed_places(form, places, letter):
    """The letter to which the rows at these places lead a letter, one after the other, and their next places."""
    left = []
    for place in places:
        turn, nexts = form[place]
        left.append(nexts[letter])
        letter = turn[letter]
    return letter, left


def led_along(form, places, text):
    """The letters to which the rows at these places lead some letters, one after the other."""
    come = []
    for letter in text:
        letter, places = passed_places(form, places, letter)
        come.append(letter)
    return tuple(come)


def trial_letters(letters):
    """A row of letters without any order, always the same one."""
    number = 1
    text = []
    for _ in range(TRIED_LETTERS):
        number = number * 16807 % 2147483647
        text.append(number // 1024 % letters)
    return text


def ring_forms(move, text):
    """The forms of a text, and the ring-rest behind the whole of it."""
    forms = [move.rows]
    known = {}
    for sign in text:
        place = (forms[-1], sign)
        if place not in known:
            known[place] = told_ring_form(forms[-1], int(sign))
        forms.append(known[place])
    return forms


def led_by_forms(forms, text, number):
    """The text to which so many times the move lead the text that has these forms."""
    parts = []
    for form, sign in zip(forms, text):
        ring = letter_ring(form, int(sign))
        at = number % len(ring)
        number = number // len(ring)
        parts.append((form, ring[:at], ring[at]))
    come = ""
    # What is left over behind each letter is done behind all whole rings of it.
    for form, passed, last in parts[::-1]:
        for letter in passed:
            come = led_from(form, form[0][1][letter], come)[0]
        come = str(last) + come
    return come


def times_by_forms(forms, text, other_text):
    """How often the move must be done at least until it has led the text that has these forms to the other one."""
    number = 0
    many = 1
    aim = other_text
    for form, sign in zip(forms, text):
        ring = letter_ring(form, int(sign))
        if int(aim[0]) not in ring:
            return None
        at = ring.index(int(aim[0]))
        aim = aim[1:]
        for letter in ring[:at][::-1]:
            aim = led_back(form, letter, aim)
        number = number + many * at
        many = many * len(ring)
    return number


def led_back(form, letter, text):
    """The text that the rest behind a letter leads to this one."""
    return led_from(undone_rows(form), form[0][1][letter], text)[0]
