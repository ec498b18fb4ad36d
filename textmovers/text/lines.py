"""What the lines of strings are made of: words, integers, turns and states."""

from textmovers.base.letters import DIGITS
from textmovers.errors import InvalidOperation, ParseError
from textmovers.machine.machines import Machine, is_state_table

ALL_DIGITS = "0123456789"


def words_of(line):
    """The words of a line, or None if it has an empty one."""
    words = line.split(" ")
    return None if "" in words else words


def is_number(word, most):
    """Whether the word is an integer of at most so many digits."""
    digits = word.removeprefix("-")
    if not 1 <= len(digits) <= most or not all([sign in ALL_DIGITS for sign in digits]):
        return False
    return digits[0] != "0" or word == "0"


def checked_lines(string, is_right):
    """The words of all lines; refuses a string with a line that has not the form of its place."""
    if not isinstance(string, str):
        raise InvalidOperation("no string")
    told = []
    for index, line in enumerate(string.split("\n")):
        words = words_of(line)
        if words is None or not (is_right(words) if index > 0 else is_letters_line(words)):
            raise ParseError(index)
        told.append(words)
    return told


def is_letters_line(words):
    """Whether these are the words of a first line."""
    return words[0] == "letters" and len(words) == 2 and is_number(words[1], 1)


def is_state_line(words):
    """Whether these are the words of a line of a machine behind its first one."""
    return words[0] == "state"


def turn_of_word(word):
    """The letters that stand side by side in a word, or None if it has other signs, or more of them."""
    if len(word) > len(DIGITS) or not all([sign in DIGITS for sign in word]):
        return None
    return tuple([int(sign) for sign in word])


def machine_of_lines(lines):
    """The machine that is told by the words of its lines, or None if they tell none."""
    letters = int(lines[0][1])
    if not 2 <= letters <= len(DIGITS):
        return None
    table = {}
    for words in lines[1:]:
        if len(words) != letters + 3:
            return None
        table[words[1]] = (turn_of_word(words[2]), tuple(words[3:]))
    return Machine(letters, table) if is_state_table(letters, table) else None
