"""Moves: what states, one after the other, do to all texts."""

from textmovers.base.letters import MAX_RESTS, check_letters, check_text, is_turn
from textmovers.base.rows import led_from, shown_turn
from textmovers.base.whole import is_between
from textmovers.errors import InvalidMove, InvalidNumber, TooMany
from textmovers.machine.machines import check_machine, check_state
from textmovers.move.gathering import power_form
from textmovers.move.tables import (
    LeastForm, idle_rows, joined_rows, least_of_met, least_rows, product_rows, rows_from, undone_rows,
)

MAX_POWER = 100


class Move:
    """A move, kept as the rows of its least form. It never changes."""

    def __init__(self, letters, *rows):
        check_letters(letters)
        self._letters = letters
        if len(rows) == 1 and isinstance(rows[0], LeastForm):
            self._rows = rows[0].told
        elif is_row_tuple(letters, rows):
            self._rows = least_rows(rows, len(rows))
        else:
            raise InvalidMove("no one to sixty pairs of a turn and the numbers of rows")

    @classmethod
    def of(cls, letters, rows):
        """The move that is told by a tuple of rows."""
        check_letters(letters)
        if not isinstance(rows, tuple):
            raise InvalidMove("the rows are no tuple")
        return cls(letters, *rows)

    @property
    def letters(self):
        """The number of letters."""
        return self._letters

    @property
    def rows(self):
        """The rows of the least form."""
        return self._rows

    @property
    def first_turn(self):
        """The turn of the first letter."""
        return self._rows[0][0]

    @property
    def is_idle(self):
        """Whether each text is led to itself."""
        return self._rows == idle_rows(self._letters)

    def __call__(self, text):
        check_text(self._letters, text)
        return led_from(self._rows, 0, text)[0]

    def rest(self, text):
        """The move that tells what comes out behind a text."""
        check_text(self._letters, text)
        return rest_at(self, led_from(self._rows, 0, text)[1])

    def rests(self):
        """The unlike rests, in the order of the least form."""
        return tuple([rest_at(self, place) for place in range(len(self._rows))])

    def undone(self):
        """The move that leads each text back."""
        return least_move(self._letters, rows_from(undone_rows(self._rows), 0))

    def __invert__(self):
        return self.undone()

    def __mul__(self, other):
        check_other_move(self, other)
        return met_move(self._letters, product_rows(self._rows, other._rows))

    def power(self, number):
        """So many times the move, or its undone one for a number below 0."""
        if not is_between(number, -MAX_POWER, MAX_POWER):
            raise InvalidNumber(number)
        once = self if number > 0 else self.undone()
        form = power_form(self._letters, once._rows, abs(number))
        if form is None:
            raise TooMany(MAX_RESTS)
        return least_move(self._letters, form)

    def moved_by(self, other):
        """The product of the undone other move, this one and the other one."""
        check_other_move(self, other)
        return ~other * self * other

    def is_kept(self, text):
        """Whether the text is led to itself."""
        check_text(self._letters, text)
        return led_from(self._rows, 0, text)[0] == text

    def __len__(self):
        return len(self._rows)

    def __eq__(self, other):
        if not isinstance(other, Move):
            return NotImplemented
        return (self._letters, len(self._rows), self._rows) == (other._letters, len(other._rows), other._rows)

    def __lt__(self, other):
        if not isinstance(other, Move):
            return NotImplemented
        return (self._letters, len(self._rows), self._rows) < (other._letters, len(other._rows), other._rows)

    def __str__(self):
        return f"move of {self._letters} letters: {shown_rows(self._rows)}"


def idle(letters):
    """The move that leads each text to itself."""
    check_letters(letters)
    return least_move(letters, idle_rows(letters))


def move_of(machine, state):
    """The move of a state of a machine."""
    check_machine(machine)
    check_state(machine, state)
    rows = state_rows(machine)
    return least_move(machine.letters, least_of_met(rows_from(rows, machine.states.index(state)), len(rows)))


def first_turned(letters, turn):
    """The move that turns the first letter and leaves all others."""
    if not is_turn(letters, turn):
        raise InvalidMove(f"no turn of {letters} letters")
    return told_move(letters, joined_rows(turn, [idle_rows(letters)] * letters))


def joined_move(turn, *rests):
    """The move with this turn whose rests behind the letters are these moves."""
    letters = len(rests)
    if not are_moves_of(rests, letters) or not is_turn(letters, turn):
        raise InvalidMove("no turn and a move of as many letters for each letter")
    return told_move(letters, joined_rows(turn, [move.rows for move in rests]))


def told_move(letters, rows):
    """The move of any number of rows, if its least form is not too great."""
    return met_move(letters, rows_from(rows, 0))


def met_move(letters, rows):
    """The same for rows that are numbered as they are met from row 0 on."""
    least = least_of_met(rows, MAX_RESTS)
    if least is None:
        raise TooMany(MAX_RESTS)
    return least_move(letters, least)


def least_move(letters, rows):
    """The move of a least form."""
    return Move(letters, LeastForm(rows))


def rest_at(move, place):
    """The rest of a move that a row of its least form tells."""
    return least_move(move.letters, rows_from(move.rows, place))


def state_rows(machine):
    """A row for each state of a machine, by the names."""
    places = {name: place for place, name in enumerate(machine)}
    return [(machine.turn(name), tuple([places[behind] for behind in machine.nexts(name)])) for name in machine]


def check_move(move):
    """Refuses what is no move."""
    if not isinstance(move, Move):
        raise InvalidMove("no move")


def check_other_move(move, other_move):
    """Refuses what is no move of as many letters."""
    check_move_of(move.letters, other_move)


def check_move_of(letters, move):
    """Refuses what is no move of so many letters."""
    if not isinstance(move, Move) or move.letters != letters:
        raise InvalidMove(f"no move of {letters} letters")


def are_moves_of(values, letters):
    """Whether the values are as many moves of as many letters as a machine can have."""
    if not is_between(letters, 2, 4):
        return False
    return all([isinstance(value, Move) and value.letters == letters for value in values])


def is_row_tuple(letters, value):
    """Whether the value is one to sixty pairs of a turn and of the numbers of some of these pairs."""
    if not 1 <= len(value) <= MAX_RESTS:
        return False
    return all([is_row(letters, row, len(value)) for row in value])


def is_row(letters, value, many):
    """Whether the value is a pair of a turn and of a number below this one for each letter."""
    if not isinstance(value, tuple) or len(value) != 2:
        return False
    turn, nexts = value
    if not is_turn(letters, turn) or not isinstance(nexts, tuple) or len(nexts) != letters:
        return False
    return all([is_between(place, 0, many - 1) for place in nexts])


def shown_rows(rows):
    """The rows as the string of a move shows them."""
    parts = []
    for turn, nexts in rows:
        places = [str(place) for place in nexts]
        parts.append(" ".join([shown_turn(turn), *places]))
    return " | ".join(parts)
