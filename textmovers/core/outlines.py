"""Outlines: moves of a quiet machine told by trees whose leaves are in its core."""

from textmovers.base.letters import check_text, is_turn
from textmovers.base.whole import is_between, is_passed
from textmovers.core.graphs import resolved
from textmovers.core.powers import check_squares, powered_number
from textmovers.core.trees import forest_of, word_number
from textmovers.errors import InvalidMove, InvalidNumber, InvalidOperation
from textmovers.machine.machines import check_machine
from textmovers.move.moves import check_move_of, told_move
from textmovers.move.words import check_word

MAX_ROWS = 2000


def outline(machine, word):
    """The outline of the move of a word."""
    check_word(machine, word)
    forest, steps = forest_of(machine)
    return outline_at(forest, word_number(forest, steps, word))


def outline_of(machine, move):
    """The outline of a move, or None if it has none."""
    check_machine(machine)
    check_move_of(machine.letters, move)
    forest, _ = forest_of(machine)
    number = forest.grafted(move.rows)[0]
    return None if number is None else outline_at(forest, number)


def is_outline(machine, value):
    """Whether the value is the outline of some move."""
    forest, _ = forest_of(machine)
    return outline_number(forest, value) is not None


def outline_led(machine, outline, text):
    """The text to which the move of an outline leads a text."""
    check_machine(machine)
    check_text(machine.letters, text)
    forest, _ = forest_of(machine)
    return forest.led(checked_number(forest, outline), text)[0]


def outline_rest(machine, outline, text):
    """The outline of the rest behind a text."""
    check_machine(machine)
    check_text(machine.letters, text)
    forest, _ = forest_of(machine)
    _, behind = forest.led(checked_number(forest, outline), text)
    return outline_at(forest, behind)


def outline_depth(machine, outline):
    """The least length behind which the rests of the move of an outline are in the core."""
    forest, _ = forest_of(machine)
    return forest.depth(checked_number(forest, outline))


def outline_move(machine, outline):
    """The move of an outline."""
    forest, _ = forest_of(machine)
    return told_move(machine.letters, forest.form(checked_number(forest, outline)))


def outline_product(machine, outline, other_outline):
    """The outline of the product, first the move of the one and then that of the other one."""
    forest, _ = forest_of(machine)
    one = checked_number(forest, outline)
    other = checked_number(forest, other_outline)
    return outline_at(forest, forest.limited_product(one, other, MAX_ROWS))


def outline_undone(machine, outline):
    """The outline of the undone move."""
    forest, _ = forest_of(machine)
    return outline_at(forest, forest.undone_number(checked_number(forest, outline)))


def outline_power(machine, outline, number):
    """The outline of so many times the move, or of its undone one if the number is below 0."""
    check_machine(machine)
    if not is_passed(number):
        raise InvalidNumber(number)
    forest, _ = forest_of(machine)
    once = checked_number(forest, outline)
    if number < 0:
        once = forest.undone_number(once)
    check_squares(forest, once, abs(number), MAX_ROWS)
    return outline_at(forest, powered_number(forest, once, abs(number)))


def joined_outline(machine, turn, *outlines):
    """The outline of the move with this turn whose rests behind the letters have these outlines."""
    check_machine(machine)
    if not is_turn(machine.letters, turn):
        raise InvalidMove("no turn of the letters of the machine")
    forest, _ = forest_of(machine)
    if len(outlines) != machine.letters:
        raise InvalidOperation("not as many outlines as letters")
    numbers = [checked_number(forest, one) for one in outlines]
    return outline_at(forest, forest.number_of(turn, tuple(numbers)))


def checked_number(forest, value):
    """The number of the move of an outline; refuses what is none."""
    number = outline_number(forest, value)
    if number is None:
        raise InvalidOperation("no outline of the machine")
    return number


def outline_at(forest, number):
    """The outline of the move with this number; TooMany if it has too many rows."""
    order = forest.outside(number, MAX_ROWS)
    marks = {one: mark for mark, one in enumerate(order)}
    places = forest.places()
    rows = []
    for one in order:
        turn, nexts = forest.row(one)
        rows.append((turn, tuple([mark_of(places, marks, behind) for behind in nexts])))
    return mark_of(places, marks, number), tuple(rows)


def mark_of(places, marks, number):
    """The mark of a move outside of the core, or in it."""
    return marks[number] if number in marks else -1 - places[number]


def outline_number(forest, value):
    """The number of the move of an outline, or None if the value is none."""
    if not is_drawn(forest, value):
        return None
    mark, rows = value
    core = list(forest.places())
    if not rows:
        return core[-1 - mark]
    needs = [[behind for behind in marks if behind >= 0] for _, marks in rows]
    order = resolved(needs)
    if mark != 0 or not are_as_met(needs) or len(order) < len(rows):
        return None
    numbers = {}
    for place in order:
        turn, marks = rows[place]
        nexts = [numbers[behind] if behind >= 0 else core[-1 - behind] for behind in marks]
        numbers[place] = forest.number_of(turn, tuple(nexts))
    unlike = {numbers[place]: True for place in order}
    if len(unlike) < len(rows) or any([forest.has_inside(number) for number in unlike]):
        return None
    return numbers[0]


def is_drawn(forest, value):
    """Whether the value is a pair of a mark and of a tuple of rows, not too many."""
    if not isinstance(value, tuple) or len(value) != 2:
        return False
    mark, rows = value
    if not isinstance(rows, tuple) or len(rows) > MAX_ROWS:
        return False
    letters = len(forest.row(0)[0])
    least = -len(forest.inside())
    if not is_between(mark, least, len(rows) - 1):
        return False
    return all([is_drawn_row(letters, row, least, len(rows)) for row in rows])


def is_drawn_row(letters, value, least, many):
    """Whether the value is a pair of a turn and of a mark, from the least to below this number, for each letter."""
    if not isinstance(value, tuple) or len(value) != 2:
        return False
    turn, marks = value
    if not is_turn(letters, turn) or not isinstance(marks, tuple) or len(marks) != letters:
        return False
    return all([is_between(mark, least, many - 1) for mark in marks])


def are_as_met(needs):
    """Whether the numbers come in the order in which they first stand in what is told for 0, 1 and so on."""
    told = 1
    for place, marks in enumerate(needs):
        if place >= told:
            return False
        for mark in marks:
            if mark > told:
                return False
            if mark == told:
                told += 1
    return True
