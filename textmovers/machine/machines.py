"""Machines: states that lead texts letter by letter."""

from textmovers.base.letters import MAX_STATES, check_letters, check_text, is_name, is_turn
from textmovers.base.rows import led_from, shown_turn, undone_row
from textmovers.errors import InvalidMachine, InvalidName, InvalidOperation, TooMany, UnknownName


class Machine:
    """A machine. It never changes."""

    def __init__(self, letters, states):
        check_letters(letters)
        if not is_state_table(letters, states):
            raise InvalidMachine("no dict from names to pairs of a turn and next states")
        names = sorted([str(name) for name in states])
        self._letters = letters
        self._states = tuple(names)
        self._table = {name: states[name] for name in names}

    @property
    def letters(self):
        """The number of letters."""
        return self._letters

    @property
    def states(self):
        """The names of the states, ascending."""
        return self._states

    def turn(self, state):
        """The turn of a state."""
        check_state(self, state)
        return self._table[state][0]

    def nexts(self, state):
        """The next states of a state, one for each letter."""
        check_state(self, state)
        return self._table[state][1]

    def step(self, state, text):
        """The text to which the state leads a text, and the state behind it."""
        check_state(self, state)
        check_text(self._letters, text)
        return led_from(self._table, state, text)

    def with_state(self, name, turn, nexts):
        """The machine with one state more, whose next states can be itself."""
        if not is_name(name):
            raise InvalidName("no name for a state")
        if not is_state_row(self._letters, (turn, nexts), (*self._states, name)):
            raise InvalidMachine("no turn and next states of this machine")
        if name in self:
            raise InvalidOperation(f"there is a state {name}")
        return joined_machine(self._letters, self._table, {name: (turn, nexts)})

    def part(self, state):
        """The machine with only those states that are reached from this one."""
        check_state(self, state)
        names = reached_states(self._table, state)
        return Machine(self._letters, {name: self._table[name] for name in names})

    def undone(self):
        """The machine whose states lead back what these states lead."""
        table = {}
        for name in self._states:
            turn, nexts = self._table[name]
            table[name] = undone_row(turn, nexts)
        return Machine(self._letters, table)

    def __invert__(self):
        return self.undone()

    def beside(self, other):
        """The machine with the states of both."""
        if not isinstance(other, Machine) or other.letters != self._letters:
            raise InvalidMachine("no machine of as many letters")
        if any([name in self for name in other]):
            raise InvalidOperation("both have a state of the same name")
        return joined_machine(self._letters, self._table, other._table)

    def renamed(self, names):
        """The machine with other names for some states, all exchanged at once."""
        if not is_renaming(self, names):
            raise InvalidOperation("no dict from states to names")
        new = {name: names.get(name, name) for name in self._states}
        if len(set(list(new.values()))) < len(new):
            raise InvalidOperation("two states would have one name")
        table = {}
        for name in self._states:
            turn, nexts = self._table[name]
            table[new[name]] = (turn, tuple([new[behind] for behind in nexts]))
        return Machine(self._letters, table)

    def __contains__(self, value):
        return isinstance(value, str) and value in self._table

    def __len__(self):
        return len(self._states)

    def __iter__(self):
        return iter(self._states)

    def __eq__(self, other):
        return isinstance(other, Machine) and self._letters == other._letters and self._table == other._table

    def __str__(self):
        return f"machine of {self._letters} letters: {shown_table(self._table)}"


def check_machine(machine):
    """Refuses what is no machine."""
    if not isinstance(machine, Machine):
        raise InvalidMachine("no machine")


def check_state(machine, state):
    """Refuses what is no state of the machine."""
    if state not in machine:
        raise UnknownName(state)


def is_state_table(letters, value):
    """Whether the value is a dict from names of states to their turns and next states."""
    if not isinstance(value, dict) or not 1 <= len(value) <= MAX_STATES:
        return False
    if not all([is_name(name) for name in value]):
        return False
    return all([is_state_row(letters, value[name], list(value)) for name in value])


def is_state_row(letters, value, names):
    """Whether the value is a pair of a turn and of one of the names for each letter."""
    if not isinstance(value, tuple) or len(value) != 2:
        return False
    turn, nexts = value
    if not is_turn(letters, turn) or not isinstance(nexts, tuple) or len(nexts) != letters:
        return False
    return all([name in names for name in nexts])


def is_renaming(machine, value):
    """Whether the value is a dict from states of the machine to names."""
    if not isinstance(value, dict):
        return False
    return all([name in machine and is_name(value[name]) for name in value])


def joined_machine(letters, table, other_table):
    """The machine with the states of two tables that have no name in common."""
    if len(table) + len(other_table) > MAX_STATES:
        raise TooMany(MAX_STATES)
    joined = {name: table[name] for name in table}
    for name in other_table:
        joined[name] = other_table[name]
    return Machine(letters, joined)


def reached_states(table, state):
    """The names of the states that are reached from one state, itself among them."""
    names = [state]
    at = 0
    while at < len(names):
        _, nexts = table[names[at]]
        for behind in nexts:
            if behind not in names:
                names.append(behind)
        at += 1
    return names


def shown_table(table):
    """The states with their turns and next states, as the string of a machine shows them."""
    parts = []
    for name in table:
        turn, nexts = table[name]
        parts.append(" ".join([name, shown_turn(turn), *nexts]))
    return ", ".join(parts)
