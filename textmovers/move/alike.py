"""Whether two moves, or two states, do the same with all texts, and papers that show it."""

from textmovers.base.letters import MAX_STATES, is_name, is_text
from textmovers.errors import InvalidMachine, InvalidOperation
from textmovers.machine.machines import Machine, check_machine, check_state
from textmovers.move.moves import check_move, check_other_move, move_of


def apart_text(move, other_move):
    """The least text that the moves lead to unlike texts, or None if they are equal."""
    check_move(move)
    check_other_move(move, other_move)
    ways = {(0, 0): ""}
    pairs = [(0, 0)]
    at = 0
    # Pairs are met in the order of the least texts that lead to them, so the
    # first unlike turns tell the least text of all.
    while at < len(pairs):
        turn, nexts = move.rows[pairs[at][0]]
        other_turn, other_nexts = other_move.rows[pairs[at][1]]
        way = ways[pairs[at]]
        unlike = [letter for letter in range(move.letters) if turn[letter] != other_turn[letter]]
        if unlike:
            return way + str(unlike[0])
        for letter, pair in enumerate(zip(nexts, other_nexts)):
            if pair not in ways:
                ways[pair] = way + str(letter)
                pairs.append(pair)
        at += 1
    return None


def are_alike(one_machine, one_state, other_machine, other_state):
    """Whether a state of one machine and a state of the other one have equal moves."""
    check_both_states(one_machine, one_state, other_machine, other_state)
    return move_of(one_machine, one_state) == move_of(other_machine, other_state)


def alike_paper(one_machine, one_state, other_machine, other_state):
    """A paper that shows whether the two states have equal moves."""
    check_both_states(one_machine, one_state, other_machine, other_state)
    text = apart_text(move_of(one_machine, one_state), move_of(other_machine, other_state))
    if text is not None:
        return "apart", text
    reached = reached_pairs(one_machine, one_state, other_machine, other_state)
    pairs = [(one, other) for one in one_machine for other in other_machine if (one, other) in reached]
    return "alike", tuple(pairs)


def is_alike_paper(one_machine, one_state, other_machine, other_state, value):
    """Whether the value is such a paper, whoever made it."""
    check_both_states(one_machine, one_state, other_machine, other_state)
    if not isinstance(value, tuple) or len(value) != 2:
        return False
    form, shown = value
    if form == "alike":
        return is_alike_table(one_machine, other_machine, shown) and (one_state, other_state) in shown
    if form == "apart" and is_text(one_machine.letters, shown):
        return one_machine.step(one_state, shown)[0] != other_machine.step(other_state, shown)[0]
    return False


def alike_states(machine):
    """The groups of states with equal moves, ascending."""
    check_machine(machine)
    groups = {}
    for state in machine:
        rows = move_of(machine, state).rows
        groups[rows] = (*groups.get(rows, ()), state)
    return tuple([groups[rows] for rows in groups])


def merged(machine):
    """The machine with only the first state of each group, in the place of all of them."""
    firsts = {}
    for group in alike_states(machine):
        for state in group:
            firsts[state] = group[0]
    table = {}
    for state in machine:
        if firsts[state] == state:
            table[state] = (machine.turn(state), tuple([firsts[behind] for behind in machine.nexts(state)]))
    return Machine(machine.letters, table)


def machine_of(move, names):
    """The machine whose states have these names, one for each row of the least form."""
    check_move(move)
    if not are_row_names(names, len(move)):
        raise InvalidOperation("no tuple of a name for each row")
    table = {}
    for name, (turn, nexts) in zip(names, move.rows):
        table[name] = (turn, tuple([names[place] for place in nexts]))
    return Machine(move.letters, table)


def check_both_states(one_machine, one_state, other_machine, other_state):
    """Refuses what is no state of a machine, and one of another with as many letters."""
    check_machine(one_machine)
    check_state(one_machine, one_state)
    check_machine(other_machine)
    if other_machine.letters != one_machine.letters:
        raise InvalidMachine("machines of unlike numbers of letters")
    check_state(other_machine, other_state)


def reached_pairs(one_machine, one_state, other_machine, other_state):
    """The pairs of states in which two states go on together, the pair of both among them."""
    pairs = [(one_state, other_state)]
    at = 0
    while at < len(pairs):
        one, other = pairs[at]
        for pair in zip(one_machine.nexts(one), other_machine.nexts(other)):
            if pair not in pairs:
                pairs.append(pair)
        at += 1
    return pairs


def is_alike_table(one_machine, other_machine, value):
    """Whether the value is an ascending tuple of pairs that turn alike and go on in pairs of it."""
    if not isinstance(value, tuple):
        return False
    if not all([is_state_pair(one_machine, other_machine, pair) for pair in value]):
        return False
    if not all([value[at] < value[at + 1] for at in range(len(value) - 1)]):
        return False
    for one, other in value:
        if one_machine.turn(one) != other_machine.turn(other):
            return False
        if not all([pair in value for pair in zip(one_machine.nexts(one), other_machine.nexts(other))]):
            return False
    return True


def is_state_pair(one_machine, other_machine, value):
    """Whether the value is a pair of a state of each machine."""
    if not isinstance(value, tuple) or len(value) != 2:
        return False
    return value[0] in one_machine and value[1] in other_machine


def are_row_names(value, many):
    """Whether the value is a tuple of so many different names, as many as a machine can have."""
    if not isinstance(value, tuple) or len(value) != many or many > MAX_STATES:
        return False
    return all([is_name(name) for name in value]) and len(set(value)) == many
