"""Counts of patterns in words of rotating machines, and how long patterns must be to tell what words do."""

from textmovers.base.letters import check_length, check_text, index_of
from textmovers.base.whole import is_between
from textmovers.errors import InvalidNumber, InvalidOperation, TooMany
from textmovers.level.counts import pattern_count, short_counts
from textmovers.level.forms import pattern_parts
from textmovers.level.levels import check_number, level_texts
from textmovers.level.series import countless_sizes, moving_word
from textmovers.machine.machines import check_machine
from textmovers.move.words import check_word, is_word, led, passed
from textmovers.ring.rounds import is_rotation

MAX_PATTERN = 12
MAX_MOST = 8
MAX_SUMMED = 16
MAX_PARTS = 400
MAX_COUNTED = 3000
MAX_DEEP = 27
MAX_PAIRED = 9


def is_rotating_machine(machine):
    """Whether the machine has two or three letters, and each of its turns is a rotation."""
    check_machine(machine)
    return machine.letters < 4 and all([is_rotation(machine.turn(state)) for state in machine])


def count(machine, word, pattern):
    """How often the pattern stands scattered in the word, undone states counted below 0."""
    check_word(machine, word)
    if not is_pattern(machine, pattern):
        raise InvalidOperation("no tuple of at most twelve states")
    check_rotating(machine)
    return pattern_count(word, pattern)


def rotation(machine, word, text):
    """By how much the rest of the word behind the text rotates the next letter."""
    check_word(machine, word)
    check_text(machine.letters, text)
    check_rotating(machine)
    left, _ = passed(machine, word, text)
    return sum([number * machine.turn(state)[0] for state, number in left]) % machine.letters


def rotation_sum(machine, text):
    """The patterns, with numbers, whose counts tell the rotation of each word behind the text."""
    check_machine(machine)
    check_text(machine.letters, text)
    check_rotating(machine)
    check_number(machine.letters, len(text), MAX_SUMMED)
    parts = pattern_parts(machine, len(text), index_of(machine.letters, text), MAX_PARTS)
    if parts is None:
        raise TooMany(MAX_PARTS)
    return {pattern: number for pattern, number in parts}


def are_same(machine, word, other_word, most):
    """Whether both words have equal counts, modulo the letters, of all patterns of at most so many states."""
    check_word(machine, word)
    check_word(machine, other_word)
    check_most(most)
    check_rotating(machine)
    states = standing_states(machine, word, other_word)
    many = 0
    for _ in range(most):
        many = (many + 1) * len(states)
    if many > MAX_COUNTED:
        raise TooMany(MAX_COUNTED)
    return have_same_counts(machine, word, other_word, most)


def depth(machine, length):
    """How many states patterns must have that their counts tell what words do with texts of the length."""
    return len(zero_sizes(machine, length)) - 1


def zero_sizes(machine, length):
    """For each number to the depth, how many level turns words make that have no counts of patterns up to it."""
    check_machine(machine)
    check_length(length)
    check_rotating(machine)
    check_number(machine.letters, length, MAX_DEEP)
    return countless_sizes(machine, length)


def depth_pair(machine, length, most):
    """Two words with equal counts of short patterns that lead some text to unlike texts, or None."""
    check_paired(machine, length, most)
    word = moving_word(machine, length, most)
    return None if word is None else (word, ())


def is_depth_pair(machine, length, most, value):
    """Whether the value is such a pair, whoever made it."""
    check_paired(machine, length, most)
    if not isinstance(value, tuple) or len(value) != 2 or not all([is_word(machine, word) for word in value]):
        return False
    # There is no pair for more, and so no need to count long patterns.
    if most >= len(countless_sizes(machine, length)) - 1:
        return False
    one, other = value
    if not have_same_counts(machine, one, other, most):
        return False
    return any([led(machine, one, text) != led(machine, other, text) for text in level_texts(machine.letters, length)])


def check_rotating(machine):
    """Refuses a machine that is not rotating."""
    if not is_rotating_machine(machine):
        raise InvalidOperation("the machine is not rotating")


def check_most(most):
    """Refuses what is no number of states that patterns can have."""
    if not is_between(most, 0, MAX_MOST):
        raise InvalidNumber(most)


def check_paired(machine, length, most):
    """Refuses what no pair is told for."""
    check_machine(machine)
    check_length(length)
    check_most(most)
    check_rotating(machine)
    check_number(machine.letters, length, MAX_PAIRED)


def is_pattern(machine, value):
    """Whether the value is a tuple of states, not too many."""
    if not isinstance(value, tuple) or len(value) > MAX_PATTERN:
        return False
    return all([state in machine for state in value])


def standing_states(machine, word, other_word):
    """The states that stand in the words, ascending."""
    return [state for state in machine if any([one == state for one, _ in (*word, *other_word)])]


def have_same_counts(machine, word, other_word, most):
    """Whether the words have equal counts of all patterns of at most so many states."""
    states = standing_states(machine, word, other_word)
    counts = [short_counts(one, states, most, machine.letters) for one in (word, other_word)]
    return counts[0] == counts[1]
