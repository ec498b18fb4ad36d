"""Outlines: moves of a quiet machine told by trees whose leaves are in its core."""

from textmovers.base.letters import check_text, is_turn
from textmovers.base.whole import is_between, is_passed
from textmovers.core.graphs import resolved
from textmovers.core.trees import forest_of, word_number
from textmovers.errors import InvalidMove, InvalidNumber, InvalidOperation
from textmovers.machine.machines import check_machine
from textmovers.move.moves import check_move_of, told_move
from textmovers.move.words import check_word

MAX_ROWS = 2000


def outline(machine, word):
    """The outline of the move of a word."""
    check_word(machine, word)
    forest = forest_of(machine)
    return outline_at(forest, word_number(machine, forest, word))


def outline_of(machine, move):
    """The outline of a move, or None if it has none."""
    check_machine(machine)
    check_move_of(machine.letters, move)
    forest = forest_of(machine)
    number = forest.planted(move.rows)[0]
    return None if number is None else outline_at(forest, number)


def is_outline(machine, value):
    """Whether the value is the outline of some move."""
    return outline_number(forest_of(machine), value) is not None


def outline_led(machine, outline, text):
    """The text to which the move of an outline leads a text."""
    check_machine(machine)
    check_text(machine.letters, text)
    forest = forest_of(machine)
    return forest.led(checked_number(forest, outline), text)[0]


def outline_rest(machine, outline, text):
    """The outline of the rest behind a text."""
    check_machine(machine)
    check_text(machine.letters, text)
    forest = forest_of(machine)
    _, behind = forest.led(checked_number(forest, outline), text)
    return outline_at(forest, behind)


def outline_depth(machine, outline):
    """The least length behind which the rests of the move of an outline are in the core."""
    forest = forest_of(machine)
    return forest.depth(checked_number(forest, outline))


def outline_move(machine, outline):
    """The move of an outline."""
    forest = forest_of(machine)
    return told_move(machine.letters, forest.rests_table(checked_number(forest, outline)))


def outline_product(machine, outline, other_outline):
    """The outline of the product, first the move of the one and then that of the other one."""
    forest = forest_of(machine)
    one = checked_number(forest, outline)
    other = checked_number(forest, other_outline)
    return outline_at(forest, forest.product(one, other, MAX_ROWS))


def outline_undone(machine, outline):
    """The outline of the undone move."""
    forest = forest_of(machine)
    return outline_at(forest, forest.undone_number(checked_number(forest, outline)))


def outline_power(machine, outline, number):
    """The outline of so many times the move, or of its undone one if the number is below 0."""
    check_machine(machine)
    if not is_passed(number):
        raise InvalidNumber(number)
    forest = forest_of(machine)
    square = checked_number(forest, outline)
    if number < 0:
        square = forest.undone_number(square)
    left = abs(number)
    power = 0
    # Only the squares have a limit; what has come of them on the way has none.
    while left > 0:
        if left % 2 == 1:
            power = forest.product(power, square)
        left = left // 2
        if left > 0:
            square = forest.product(square, square, MAX_ROWS)
            forest.outside(square, MAX_ROWS)
    return outline_at(forest, power)


def joined_outline(machine, turn, *outlines):
    """The outline of the move with this turn whose rests behind the letters have these outlines."""
    check_machine(machine)
    if not is_turn(machine.letters, turn):
        raise InvalidMove("no turn of the letters of the machine")
    forest = forest_of(machine)
    if len(outlines) != machine.letters:
        raise InvalidOperation("not as many outlines as letters")
    numbers = [checked_number(forest, one) for one in outlines]
    return outline_at(forest, forest.number_of(turn, tuple(numbers)))


def checked_number(forest, value):
    """The number of the move of an outline; refuses what is none."""
    number = outline_number(forest, value)
    if number is None:
        raise InvalidOperation("no outline of the machine")
    return number


def outline_at(forest, number):
    """The outline of the move with this number; TooMany if it has too many rows."""
    order = forest.outside(number, MAX_ROWS)
    marks = {one: mark for mark, one in enumerate(order)}
    rows = []
    for one in order:
        turn, nexts = forest.row(one)
        rows.append((turn, tuple([marks.get(behind, -1 - behind) for behind in nexts])))
    return marks.get(number, -1 - number), tuple(rows)


def outline_number(forest, value):
    """The number of the move of an outline, or None if the value is none."""
    if not is_drawn(forest, value):
        return None
    mark, rows = value
    if not rows:
        return -1 - mark
    needs = [[behind for behind in marks if behind >= 0] for _, marks in rows]
    order = resolved(needs)
    if mark != 0 or not are_as_met(needs) or len(order) < len(rows):
        return None
    numbers = {}
    for place in order:
        turn, marks = rows[place]
        nexts = [numbers[behind] if behind >= 0 else -1 - behind for behind in marks]
        numbers[place] = forest.number_of(turn, tuple(nexts))
    unlike = {numbers[place]: True for place in order}
    if len(unlike) < len(rows) or any([number < forest.size() for number in unlike]):
        return None
    return numbers[0]


def is_drawn(forest, value):
    """Whether the value is a pair of a mark and of a tuple of rows, not too many."""
    if not isinstance(value, tuple) or len(value) != 2:
        return False
    mark, rows = value
    if not isinstance(rows, tuple) or len(rows) > MAX_ROWS:
        return False
    if not is_between(mark, -forest.size(), len(rows) - 1):
        return False
    return all([is_drawn_row(forest, row, len(rows)) for row in rows])


def is_drawn_row(forest, value, many):
    """Whether the value is a pair of a turn and of a mark, those of rows below this number, for each letter."""
    if not isinstance(value, tuple) or len(value) != 2:
        return False
    turn, marks = value
    letters = len(forest.row(0)[0])
    if not is_turn(letters, turn) or not isinstance(marks, tuple) or len(marks) != letters:
        return False
    return all([is_between(mark, -forest.size(), many - 1) for mark in marks])


def are_as_met(needs):
    """Whether the numbers come in the order in which they first stand in what is told for 0, 1 and so on."""
    told = 1
    for place, marks in enumerate(needs):
        if place >= told:
            return False
        for mark in marks:
            if mark > told:
                return False
            if mark == told:
                told += 1
    return True
