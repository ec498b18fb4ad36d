"""The core of a quiet machine: the moves that are left behind long texts."""

from textmovers.base.letters import check_text
from textmovers.base.whole import is_whole
from textmovers.core.closing import grown_forest
from textmovers.core.trees import forest_of, step_depth, way_numbers, word_number
from textmovers.grow.busy import check_quiet
from textmovers.machine.machines import check_machine
from textmovers.move.moves import check_move_of, least_move
from textmovers.move.tables import rows_from
from textmovers.move.words import check_word, is_word, passed, word_of


def core(machine):
    """The moves of the core, ascending."""
    rows = core_rows(machine)
    return tuple([least_move(machine.letters, rows_from(rows, place)) for place in range(len(rows))])


def is_core_move(machine, move):
    """Whether the move is one of the core."""
    check_machine(machine)
    check_move_of(machine.letters, move)
    rows = core_rows(machine)
    return any([rows_from(rows, place) == move.rows for place in range(len(rows))])


def core_rows(machine):
    """For each move of the core its turn, and the places of its rests behind the letters."""
    forest, _ = forest_of(machine)
    return tuple(forest.core_rows())


def core_paper(machine):
    """A paper that shows the core: a word for each of its moves, and the core depth."""
    check_machine(machine)
    check_quiet(machine)
    forest, steps, ways = grown_forest(machine)
    words = [word_of(ways[number]) for number in forest.places()]
    return "core", tuple(words), step_depth(forest, steps)


def is_core_paper(machine, value):
    """Whether the value is such a paper, whoever made it."""
    forest, steps = forest_of(machine)
    if not isinstance(value, tuple) or len(value) != 3 or value[0] != "core":
        return False
    _, words, many = value
    if not isinstance(words, tuple) or len(words) != len(forest.inside()):
        return False
    if not all([is_word(machine, word) for word in words]):
        return False
    if not is_whole(many) or many < step_depth(forest, steps):
        return False
    return are_core_words(forest, way_numbers(forest, steps, words))


def core_depth(machine):
    """The least length behind which all products of a move of the core and a step are in the core."""
    forest, steps = forest_of(machine)
    return step_depth(forest, steps)


def meet_depth(machine):
    """The least length behind which all products of two moves of the core are in the core."""
    forest, _ = forest_of(machine)
    return forest.deepest(forest.inside(), forest.inside())


def settled(machine, word):
    """The least length behind which the rests of the word's move are in the core."""
    check_word(machine, word)
    forest, steps = forest_of(machine)
    return forest.depth(word_number(forest, steps, word))


def rest_place(machine, word, text):
    """The place in the core of the rest of the word's move behind the text, or None if it is not there."""
    check_word(machine, word)
    check_text(machine.letters, text)
    forest, steps = forest_of(machine)
    left, _ = passed(machine, word, text)
    return forest.places().get(word_number(forest, steps, left))


def are_core_words(forest, ways):
    """Whether words on these ways have unlike moves of the core, and their beginnings at most sixty rests each."""
    if not all([forest.has_few_rests(number) for way in ways for number in way]):
        return False
    ends = {way[-1]: True for way in ways}
    return len(ends) == len(ways) and all([forest.has_inside(number) for number in ends])
