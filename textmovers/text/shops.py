"""Strings of shops."""

from textmovers.errors import Broken, InvalidOperation, Loud, MoverError, ParseError, TooMany
from textmovers.shop.promises import FORMS
from textmovers.shop.shop import Shop, begun_anew
from textmovers.text.formats import write_machine
from textmovers.text.lines import checked_lines, is_number, machine_of_lines

MAX_DIGITS = 60


def write_shop(shop):
    """The string of a shop."""
    if not isinstance(shop, Shop):
        raise InvalidOperation("no shop")
    lines = [write_machine(shop.machine)]
    words = shop.words
    for name in words:
        lines.append(" ".join(["word", name, *pair_parts(words[name])]))
    promises = shop.promises
    for label in promises:
        lines.append(" ".join(["promise", label, *promise_parts(promises[label])]))
    return "\n".join(lines)


def read_shop(string):
    """The shop that has this string."""
    lines = checked_lines(string, is_shop_line)
    shop = shop_of_lines(lines)
    if shop is None or write_shop(shop) != string:
        raise ParseError(len(lines))
    return begun_anew(shop)


def pair_parts(word):
    """The states and numbers of a word, as words of a line."""
    return [part for state, number in word for part in (state, str(number))]


def promise_parts(promise):
    """The parts of a promise, as words of a line."""
    if promise[0] == "leads":
        return [*promise[:2], f"={promise[2]}", f"={promise[3]}"]
    return [str(part) for part in promise]


def is_shop_line(words):
    """Whether these are the words of a line of a shop behind its first one."""
    return words[0] in ("state", "word", "promise")


def shop_of_lines(lines):
    """The shop that is told by the words of its lines, or None if they tell none."""
    machine = machine_of_lines([lines[0], *[words for words in lines[1:] if words[0] == "state"]])
    if machine is None:
        return None
    shop = Shop(machine)
    try:
        for words in lines[1:]:
            if words[0] == "word":
                shop.keep("".join(words[1:2]), pairs_of_parts(words[2:]))
            if words[0] == "promise":
                shop.promise("".join(words[1:2]), promise_of_parts(words[2:]))
    except (MoverError, TooMany, Broken, Loud):
        return None
    return shop


def pairs_of_parts(parts):
    """The pairs of a word that is told by words of a line, or None if they tell none."""
    if not all([is_number(part, MAX_DIGITS) for part in parts[1::2]]) or len(parts) % 2 == 1:
        return None
    return tuple([(parts[at], int(parts[at + 1])) for at in range(0, len(parts), 2)])


def promise_of_parts(parts):
    """The promise that is told by words of a line, or None if they tell none."""
    if not parts or parts[0] not in FORMS:
        return None
    _, form = FORMS[parts[0]]
    if form == "texts" and all([part.startswith("=") for part in parts[2:]]):
        return (*parts[:2], *[part[1:] for part in parts[2:]])
    if form == "number" and all([is_number(part, MAX_DIGITS) for part in parts[2:]]):
        return (*parts[:2], *[int(part) for part in parts[2:]])
    return tuple(parts) if form == "nothing" else None
