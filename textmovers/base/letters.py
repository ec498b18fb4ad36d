"""Letters, texts, names and turns: who is one, and in which order texts stand."""

from textmovers.base.whole import is_between, is_passed, is_whole
from textmovers.errors import InvalidNumber, InvalidText

MAX_TEXT = 200
MAX_STATES = 8
MAX_RESTS = 60

MAX_NAME = 8
NAME_SIGNS = "abcdefghijklmnopqrstuvwxyz"
DIGITS = "0123"


def is_name(value):
    """Whether the value is a name: one to eight letters from a to z."""
    if not isinstance(value, str) or not 1 <= len(value) <= MAX_NAME:
        return False
    return all([sign in NAME_SIGNS for sign in value])


def is_text(letters, value):
    """Whether the value is a text of so many letters."""
    check_letters(letters)
    if not isinstance(value, str) or len(value) > MAX_TEXT:
        return False
    return all([sign in DIGITS[:letters] for sign in value])


def is_turn(letters, value):
    """Whether the value is a turn of so many letters."""
    check_letters(letters)
    if not isinstance(value, tuple) or len(value) != letters:
        return False
    # True is equal to 1, so the parts are judged before they are compared.
    if not all([is_whole(part) for part in value]):
        return False
    return all([letter in value for letter in range(letters)])


def text_at(letters, length, index):
    """The text of this length with this index among all texts of the length."""
    check_letters(letters)
    check_length(length)
    if not is_passed_index(index, text_number(letters, length)):
        raise InvalidNumber(index)
    return digits_of(letters, length, index)


def index_of(letters, text):
    """The index of the text among all texts of its length."""
    check_text(letters, text)
    index = 0
    for sign in text:
        index = index * letters + int(sign)
    return index


def texts(letters, length):
    """All texts of this length, in order, one after the other."""
    check_letters(letters)
    check_length(length)
    for index in range(text_number(letters, length)):
        yield digits_of(letters, length, index)


def text_number(letters, length):
    """How many texts of this length there are."""
    many = 1
    for _ in range(length):
        many = many * letters
    return many


def digits_of(letters, length, index):
    """The digits of the index, so many, the one of the highest value first."""
    signs = []
    for _ in range(length):
        signs.append(str(index % letters))
        index = index // letters
    return "".join(signs[::-1])


def is_passed_index(value, many):
    """Whether the value is an index below this number that may be passed."""
    # A passed integer has at most sixty digits, even where there are more texts.
    return is_between(value, 0, many - 1) and is_passed(value)


def check_letters(letters):
    """Refuses a number of letters that no machine has."""
    if not is_between(letters, 2, 4):
        raise InvalidNumber(letters)


def check_length(length):
    """Refuses a length that no text has."""
    if not is_between(length, 0, MAX_TEXT):
        raise InvalidNumber(length)


def check_text(letters, text):
    """Refuses a number of letters that no machine has, and then what is no text of them."""
    if not is_text(letters, text):
        raise InvalidText(f"no text of {letters} letters")
