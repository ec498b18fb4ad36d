"""Reading values from the words of a line.

What reads a part gets the words, the place at which it begins, and how many tuples,
dicts and the like can stand one in another there. It returns the pair (value, place)
of what stands there and of the place behind it, or None if there is no such part.
"""

from textmovers.base.letters import is_text
from textmovers.endless.texts import MAX_RING, MAX_TAIL, Endless
from textmovers.move.moves import Move, is_row_tuple
from textmovers.text.lines import is_number, turn_of_word
from textmovers.text.writing import is_plain

MAX_DIGITS = 1000


def read_part(words, at, deep):
    """A value of any kind."""
    if at >= len(words):
        return None
    if deep > 0 and words[at] == "{":
        return read_dict(words, at, deep)
    if deep > 0 and words[at] == "[":
        return read_rows(words, at)
    if deep > 0 and words[at] == "<":
        return read_endless(words, at)
    if deep > 0 and words[at] == "(":
        return read_tuple(words, at, deep, False)
    return read_plain(words, at)


def read_key(words, at, deep):
    """A value that can be a key."""
    if at >= len(words):
        return None
    if deep > 0 and words[at] == "(":
        return read_tuple(words, at, deep, True)
    return read_plain(words, at)


def read_plain(words, at):
    """A string, an integer or None."""
    word = words[at]
    if word == "none":
        return None, at + 1
    if word.startswith("=") and is_plain(word[1:]):
        return word[1:], at + 1
    if is_number(word, MAX_DIGITS):
        return int(word), at + 1
    return None


def read_tuple(words, at, deep, in_key):
    """A tuple, perhaps of parts that can stand in keys alone."""
    parts = []
    at += 1
    while at < len(words) and words[at] != ")":
        part = read_key(words, at, deep - 1) if in_key else read_part(words, at, deep - 1)
        if part is None:
            return None
        value, at = part
        parts.append(value)
    return (tuple(parts), at + 1) if at < len(words) else None


def read_dict(words, at, deep):
    """A dict, its keys in the order in which they stand there."""
    told = {}
    at += 1
    while at < len(words) and words[at] != "}":
        part = read_key(words, at, deep - 1)
        if part is None:
            return None
        key, at = part
        part = read_part(words, at, deep - 1)
        if part is None:
            return None
        told[key], at = part
    return (told, at + 1) if at < len(words) else None


def read_rows(words, at):
    """A move, told by rows."""
    last = at + 1
    while last < len(words) and words[last] != "]":
        last += 1
    told = words[at + 1:last]
    if last == len(words) or not told or told[0] not in ("2", "3", "4"):
        return None
    letters = int(told[0])
    rows = rows_of_words(letters, told[1:])
    return None if rows is None else (Move.of(letters, rows), last + 1)


def rows_of_words(letters, words):
    """The rows of a move that are told by words, one after the other, or None if they tell none."""
    many = letters + 1
    if len(words) % many != 0:
        return None
    rows = []
    for at in range(0, len(words), many):
        places = words[at + 1:at + many]
        if not all([is_number(place, 2) for place in places]):
            return None
        rows.append((turn_of_word(words[at]), tuple([int(place) for place in places])))
    return tuple(rows) if is_row_tuple(letters, rows) else None


def read_endless(words, at):
    """An endless text."""
    told = words[at + 1:at + 5]
    if len(told) < 4 or told[0] not in ("2", "3", "4") or told[3] != ">":
        return None
    if not told[1].startswith("=") or not told[2].startswith("="):
        return None
    letters = int(told[0])
    ring = told[1][1:]
    tail = told[2][1:]
    if not is_text(letters, ring) or not is_text(letters, tail):
        return None
    if not 1 <= len(ring) <= MAX_RING or len(tail) > MAX_TAIL:
        return None
    return Endless(letters, ring, tail=tail), at + 5
