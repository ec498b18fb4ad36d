"""The core of a quiet machine: the moves that are left behind long texts."""

from textmovers.base.letters import check_text
from textmovers.base.whole import is_whole
from textmovers.core.closing import core_table
from textmovers.core.forest import Forest
from textmovers.core.trees import deepest_product, forest_of, step_depth, way_numbers, word_number
from textmovers.grow.busy import check_quiet
from textmovers.machine.machines import check_machine
from textmovers.move.moves import Move, check_move_of
from textmovers.move.tables import rows_from
from textmovers.move.words import check_word, is_word, passed, word_of


def core(machine):
    """The moves of the core, ascending."""
    rows = core_rows(machine)
    return tuple([Move.of(machine.letters, rows_from(rows, place)) for place in range(len(rows))])


def is_core_move(machine, move):
    """Whether the move is one of the core."""
    check_machine(machine)
    check_move_of(machine.letters, move)
    rows = core_rows(machine)
    return any([rows_from(rows, place) == move.rows for place in range(len(rows))])


def core_rows(machine):
    """For each move of the core its turn, and the places of its rests behind the letters."""
    check_machine(machine)
    check_quiet(machine)
    return tuple(core_table(machine)[0])


def core_paper(machine):
    """A paper that shows the core: a word for each of its moves, and the core depth."""
    check_machine(machine)
    check_quiet(machine)
    rows, ways = core_table(machine)
    return "core", tuple([word_of(way) for way in ways]), step_depth(machine, Forest(rows))


def is_core_paper(machine, value):
    """Whether the value is such a paper, whoever made it."""
    forest = forest_of(machine)
    if not isinstance(value, tuple) or len(value) != 3 or value[0] != "core":
        return False
    _, words, many = value
    if not isinstance(words, tuple) or len(words) != forest.size():
        return False
    if not all([is_word(machine, word) for word in words]):
        return False
    if not is_whole(many) or many < step_depth(machine, forest):
        return False
    return are_core_words(machine, forest, words)


def core_depth(machine):
    """The least length behind which all products of a move of the core and a step are in the core."""
    return step_depth(machine, forest_of(machine))


def meet_depth(machine):
    """The least length behind which all products of two moves of the core are in the core."""
    forest = forest_of(machine)
    pairs = [(one, other) for one in range(forest.size()) for other in range(forest.size())]
    return deepest_product(forest, pairs)


def settled(machine, word):
    """The least length behind which the rests of the word's move are in the core."""
    check_word(machine, word)
    forest = forest_of(machine)
    return forest.depth(word_number(machine, forest, word))


def rest_place(machine, word, text):
    """The place in the core of the rest of the word's move behind the text, or None if it is not there."""
    check_word(machine, word)
    check_text(machine.letters, text)
    forest = forest_of(machine)
    left, _ = passed(machine, word, text)
    number = word_number(machine, forest, left)
    return number if number < forest.size() else None


def are_core_words(machine, forest, words):
    """Whether the words have unlike moves of the core, and their beginnings at most sixty rests each."""
    ways = way_numbers(machine, forest, words)
    if not all([forest.has_few_rests(number) for way in ways for number in way]):
        return False
    ends = {way[-1]: True for way in ways}
    return len(ends) == len(words) and all([number < forest.size() for number in ends])
