"""Reading the parts of a command by its form."""

from textmovers.text.lines import is_number

MAX_DIGITS = 1000


def read_parts(form, words):
    """What the words behind the first one of a command tell, if they have its form, otherwise None."""
    if form[-1:] == ("?pairs",):
        # Pairs stand last, as many as there are.
        pairs = read_pairs(words[len(form) - 1:])
        ahead = read_parts(form[:-1], words[:len(form) - 1])
        return None if pairs is None or ahead is None else [*ahead, pairs]
    if len(words) != len(form):
        return None
    parts = [read_one(sort, word) for sort, word in zip(form, words)]
    return None if any([part is None for part in parts]) else parts


def read_one(sort, word):
    """What a word tells as a part of a sort, or None if it is none."""
    if sort == "?word":
        return word
    if sort == "?text":
        return word[1:] if word.startswith("=") else None
    if sort == "?number":
        return int(word) if is_number(word, MAX_DIGITS) else None
    if sort == "?many":
        return int(word) if is_number(word, MAX_DIGITS) and not word.startswith("-") else None
    if sort == "?endless":
        return read_ring(word)
    return word if word == sort else None


def read_ring(word):
    """The ring and the tail of an endless text, or None if the word is none."""
    ring, bracket, tail = word[1:].partition(")")
    if not word.startswith("(") or not bracket:
        return None
    return None if "(" in ring + tail or ")" in tail else (ring, tail)


def read_pairs(words):
    """The pairs of states and numbers, or None if the words are none."""
    if len(words) % 2 == 1 or not all([is_number(word, MAX_DIGITS) for word in words[1::2]]):
        return None
    return tuple([(words[at], int(words[at + 1])) for at in range(0, len(words), 2)])
