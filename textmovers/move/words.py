"""Words: steps by states and undone states, one after the other."""

from textmovers.base.letters import check_text
from textmovers.base.whole import is_between, is_whole
from textmovers.errors import InvalidNumber, InvalidWord, TooMany
from textmovers.machine.machines import check_machine
from textmovers.move.moves import idle, move_of

MAX_STEPS = 200
MAX_FIRST_STEPS = 3


def is_word(machine, value):
    """Whether the value is a word of the machine."""
    check_machine(machine)
    if not isinstance(value, tuple):
        return False
    return all([is_word_pair(machine, pair) for pair in value]) and step_number(value) <= MAX_STEPS


def word_move(machine, word):
    """The move of a word."""
    check_word(machine, word)
    moves = dict(step_moves(machine))
    result = idle(machine.letters)
    for step in steps_of(word):
        result = result * moves[step]
    return result


def led(machine, word, text):
    """The text to which a word leads a text."""
    return way_of(machine, word, text)[-1]


def way_of(machine, word, text):
    """All texts on the way of a text, step by step, the text itself first."""
    check_word(machine, word)
    check_text(machine.letters, text)
    sides = {1: machine, -1: ~machine}
    way = [text]
    for state, sign in steps_of(word):
        way.append(sides[sign].step(state, way[-1])[0])
    return tuple(way)


def passed(machine, word, text):
    """The word that is left behind a text, and the text to which the word leads it."""
    check_word(machine, word)
    check_text(machine.letters, text)
    sides = {1: machine, -1: ~machine}
    left = []
    for state, sign in steps_of(word):
        text, behind = sides[sign].step(state, text)
        left.append((behind, sign))
    return word_of(left), text


def undone_word(machine, word):
    """The word of the undone move: the pairs backwards, each with the other sign."""
    check_word(machine, word)
    return tuple([(state, -number) for state, number in word[::-1]])


def joined_word(machine, word, other_word):
    """One word and then the other one, pairs of one state becoming one where they meet."""
    check_word(machine, word)
    check_word(machine, other_word)
    ahead = list(word)
    behind = list(other_word)
    while ahead and behind and ahead[-1][0] == behind[0][0]:
        state, number = ahead.pop()
        number = number + behind.pop(0)[1]
        if number != 0:
            ahead.append((state, number))
    joined = (*ahead, *behind)
    if step_number(joined) > MAX_STEPS:
        raise TooMany(MAX_STEPS)
    return joined


def first_words(machine, steps):
    """All unlike moves of words of at most so many steps, each with its first word."""
    check_machine(machine)
    if not is_between(steps, 0, MAX_FIRST_STEPS):
        raise InvalidNumber(steps)
    moves = step_moves(machine)
    start = idle(machine.letters)
    seen = {start.rows: True}
    found = [([], start)]
    at = 0
    # A first word begins with a first word, so only these need be made longer.
    while at < len(found) and len(found[at][0]) < steps:
        way, move = found[at]
        at += 1
        for step, step_move in moves:
            longer = move * step_move
            if longer.rows not in seen:
                seen[longer.rows] = True
                found.append(([*way, step], longer))
    return tuple([(word_of(way), move) for way, move in found])


def is_word_pair(machine, value):
    """Whether the value is a pair of a state and an integer other than 0."""
    if not isinstance(value, tuple) or len(value) != 2:
        return False
    state, number = value
    return state in machine and is_whole(number) and number != 0


def check_word(machine, word):
    """Refuses what is no machine, and then what is no word of it."""
    if not is_word(machine, word):
        raise InvalidWord("no word of the machine")


def step_number(pairs):
    """How many steps the pairs have together."""
    return sum([abs(number) for _, number in pairs])


def steps_of(word):
    """The steps of a word: pairs of a state and 1, or -1 where it is undone."""
    steps = []
    for state, number in word:
        sign = 1 if number > 0 else -1
        steps.extend([(state, sign)] * abs(number))
    return steps


def word_of(steps):
    """The word of these steps, equal ones side by side told by one pair."""
    pairs = []
    for state, sign in steps:
        if pairs and pairs[-1][0] == state and pairs[-1][1] * sign > 0:
            pairs[-1] = (state, pairs[-1][1] + sign)
        else:
            pairs.append((state, sign))
    return tuple(pairs)


def step_moves(machine):
    """Each step with its move: states by their names, each ahead of its undone one."""
    moves = []
    for state in machine:
        move = move_of(machine, state)
        moves.append(((state, 1), move))
        moves.append(((state, -1), ~move))
    return moves
