"""Writing values as lines."""

from textmovers.base.rows import shown_turn
from textmovers.base.whole import is_whole
from textmovers.endless.texts import MAX_RING, MAX_TAIL, Endless
from textmovers.move.moves import Move

MAX_SIGNS = 200
MAX_DEEP = 9
SIGNS = "abcdefghijklmnopqrstuvwxyz0123"


def written(value, deep):
    """The string of a value with at most so many tuples, dicts and the like one in another, or None if it has none."""
    if value is None:
        return "none"
    if is_whole(value):
        return str(value) if abs(value) < number_bound() else None
    if isinstance(value, str):
        return f"={value}" if is_plain(value) else None
    if deep == 0:
        return None
    if isinstance(value, tuple):
        return bracketed("(", [written(part, deep - 1) for part in value], ")")
    if isinstance(value, dict):
        return bracketed("{", written_items(value, deep - 1), "}")
    if isinstance(value, Move):
        return bracketed("[", [str(value.letters), *[written_row(row) for row in value.rows]], "]")
    if isinstance(value, Endless) and len(value.ring) <= MAX_RING and len(value.tail) <= MAX_TAIL:
        return bracketed("<", [str(value.letters), f"={value.ring}", f"={value.tail}"], ">")
    return None


def bracketed(first, parts, last):
    """The parts between two brackets, or None if one of them has no string."""
    if any([part is None for part in parts]):
        return None
    return " ".join([first, *parts, last])


def written_items(value, deep):
    """The strings of the keys and values of a dict, in the order of those of the keys."""
    told = {}
    for key in value:
        string = written(key, deep)
        if string is None:
            return [None]
        told[string] = written(value[key], deep)
    in_order = sorted([str(string) for string in told])
    return [part for one in in_order for part in (one, told[one])]


def written_row(row):
    """What is told of a row of a least form."""
    turn, nexts = row
    return " ".join([shown_turn(turn), *[str(place) for place in nexts]])


def is_plain(value):
    """Whether the string has only such signs as can be written, and not too many."""
    return len(value) <= MAX_SIGNS and all([sign in SIGNS for sign in value])


def number_bound():
    """The least integer of more than a thousand digits."""
    bound = 1
    for _ in range(20):
        bound = bound * 10 ** 50
    return bound
