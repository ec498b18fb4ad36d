"""How the texts of a length hang together, told by the open ones alone.

This is a triple (groups, ways, others). The open texts are numbered in their order,
and groups tells for each of them its group: texts are of one group if steps whose
rests behind them are idle lead from one to the other. The ways (text, other, rest)
tell what the other steps do; their rests are numbers of states that are not idle.
Groups without open texts stay as they are behind each letter: others counts them.
"""

from textmovers.errors import TooMany
from textmovers.move.alike import alike_states, merged
from textmovers.move.moves import move_of

MAX_HANGING = 24


def busy_rests(machine):
    """The turn of each state that is not idle, and the numbers of the next ones, None for an idle one."""
    least = merged(machine)
    names = busy_states(machine)
    numbers = {state: number for number, state in enumerate(names)}
    return [(least.turn(state), tuple([numbers.get(behind) for behind in least.nexts(state)])) for state in names]


def busy_states(machine):
    """The first of each group of states with equal moves that are not idle."""
    return [group[0] for group in alike_states(machine) if not move_of(machine, group[0]).is_idle]


def first_hanging(rests):
    """How the empty text hangs together with itself."""
    if not rests:
        return (), (), 1
    return (0,), tuple([(0, 0, rest) for rest in range(len(rests))]), 0


def longer_hanging(hanging, rests, letters):
    """How the texts of one letter more hang together."""
    groups, ways, others = hanging
    heads = {(group, letter): (group, letter) for group in groups for letter in range(letters)}
    found = []
    for one, other, rest in ways:
        turn, nexts = rests[rest]
        for letter, behind in enumerate(nexts):
            if behind is None:
                join(heads, (groups[one], letter), (groups[other], turn[letter]))
            else:
                found.append((one * letters + letter, other * letters + turn[letter], behind))
    ends = {end: True for one, other, _ in found for end in (one, other)}
    texts_in_order = sorted([int(end) for end in ends])
    if len(texts_in_order) > MAX_HANGING:
        raise TooMany(MAX_HANGING)
    numbers = {}
    told = []
    for end in texts_in_order:
        head = heads[(groups[end // letters], end % letters)]
        if head not in numbers:
            numbers[head] = len(numbers)
        told.append(numbers[head])
    alone = [head for head in heads if heads[head] == head and head not in numbers]
    return tuple(told), ways_in_order(found, texts_in_order, len(rests)), others * letters + len(alone)


def ways_in_order(found, ends, many):
    """The unlike ones of these ways, by the places of their texts among these, in order."""
    places = {end: place for place, end in enumerate(ends)}
    codes = {}
    for one, other, rest in found:
        codes[(places[one] * len(ends) + places[other]) * many + rest] = True
    ways = []
    for code in sorted([int(found_code) for found_code in codes]):
        pair, rest = divmod(code, many)
        one, other = divmod(pair, len(ends))
        ways.append((one, other, rest))
    return tuple(ways)


def piece_count(hanging):
    """The number of the pieces of all texts of the length."""
    groups, ways, others = hanging
    heads = {group: group for group in groups}
    for one, other, _ in ways:
        join(heads, groups[one], groups[other])
    return others + len([group for group in heads if heads[group] == group])


def join(heads, one, other):
    """Gives all that have the head of the other one the head of the one."""
    kept = heads[one]
    gone = heads[other]
    for place in list(heads):
        if heads[place] == gone:
            heads[place] = kept
