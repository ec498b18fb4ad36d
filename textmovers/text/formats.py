"""Strings of machines, of moves and of values."""

from textmovers.base.rows import shown_turn
from textmovers.errors import InvalidOperation, ParseError
from textmovers.machine.machines import check_machine
from textmovers.move.moves import Move, check_move
from textmovers.text.lines import checked_lines, is_number, is_state_line, machine_of_lines
from textmovers.text.reading import read_part, rows_of_words
from textmovers.text.writing import MAX_DEEP, written, written_row


def write_machine(machine):
    """The string of a machine."""
    check_machine(machine)
    lines = [f"letters {machine.letters}"]
    for state in machine:
        lines.append(" ".join(["state", state, shown_turn(machine.turn(state)), *machine.nexts(state)]))
    return "\n".join(lines)


def read_machine(string):
    """The machine that has this string."""
    lines = checked_lines(string, is_state_line)
    machine = machine_of_lines(lines)
    if machine is None or write_machine(machine) != string:
        raise ParseError(len(lines))
    return machine


def write_move(move):
    """The string of a move."""
    check_move(move)
    return "\n".join([f"letters {move.letters}", *[f"row {written_row(row)}" for row in move.rows]])


def read_move(string):
    """The move that has this string."""
    lines = checked_lines(string, is_row_line)
    letters = int(lines[0][1])
    words = [word for line in lines[1:] for word in line[1:]]
    rows = rows_of_words(letters, words) if 2 <= letters <= 4 else None
    if rows is None or write_move(Move.of(letters, rows)) != string:
        raise ParseError(len(lines))
    return Move.of(letters, rows)


def write_value(value):
    """The string of a value."""
    string = written(value, MAX_DEEP)
    if string is None:
        raise InvalidOperation("a value without a string")
    return string


def read_value(string):
    """The value that has this string."""
    if not isinstance(string, str):
        raise InvalidOperation("no string")
    lines = string.split("\n")
    words = lines[0].split(" ")
    part = read_part(words, 0, MAX_DEEP)
    if part is None or part[1] < len(words) or written(part[0], MAX_DEEP) != lines[0]:
        raise ParseError(0)
    if len(lines) > 1:
        raise ParseError(1)
    return part[0]


def is_row_line(words):
    """Whether these are the words of a line of a move behind its first one."""
    return words[0] == "row" and len(words) > 1 and all([is_number(word, 2) for word in words[2:]])
