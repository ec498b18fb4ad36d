"""Busy numbers of moves, the kinds of moves, and papers that show a kind."""

from textmovers.base.letters import check_length, is_text
from textmovers.base.rows import led_from
from textmovers.base.whole import is_whole
from textmovers.errors import InvalidOperation, Loud, TooMany
from textmovers.grow.ranks import are_single, busy_links, loop_by, ranking_of, reached_from, way_to, wild_places
from textmovers.machine.machines import check_machine
from textmovers.move.moves import check_move, state_rows
from textmovers.move.tables import alike_groups, first_rows

MAX_AHEAD = 500


def busy(move, length):
    """The number of texts of this length behind which the rest of the move is not idle."""
    check_move(move)
    check_length(length)
    return busy_numbers(busy_links(move.rows), length)[-1]


def busy_sum(move, length):
    """The sum of the busy numbers of all lengths up to this one."""
    check_move(move)
    check_length(length)
    return sum(busy_numbers(busy_links(move.rows), length))


def kind(move):
    """Whether the move is shallow, quiet, of a greater degree or loud, and how much so."""
    check_move(move)
    links = busy_links(move.rows)
    ranks = ranking_of(links)
    if ranks is None:
        return ("loud",)
    if not ranks:
        return "shallow", 0
    depth, place = ranks[0]
    if depth == 0:
        return "shallow", place + 1
    if depth > 1:
        return "degree", depth - 1
    ahead, again = repeated_numbers(links)
    return "quiet", max([int(number) for number in (*ahead, *again)])


def busy_row(move):
    """The busy numbers of a quiet move: those ahead, and those that come again and again."""
    check_move(move)
    if not is_calm(move):
        raise InvalidOperation("the move is neither shallow nor quiet")
    return repeated_numbers(busy_links(move.rows))


def kind_paper(move):
    """A paper that shows of which kind the move is."""
    check_move(move)
    links = busy_links(move.rows)
    ranks = ranking_of(links)
    if ranks is None:
        return loud_paper(links)
    depth = depth_of(ranks)
    if depth == 0:
        return "shallow", ranks
    return "degree", chain_of(links, ranks), ranks


def is_kind_paper(move, value):
    """Whether the value is such a paper, whoever made it."""
    check_move(move)
    if not isinstance(value, tuple) or not value:
        return False
    links = busy_links(move.rows)
    if value[0] == "shallow" and len(value) == 2:
        return is_ranking(links, value[1]) and depth_of(value[1]) == 0
    if value[0] == "degree" and len(value) == 3:
        return is_ranking(links, value[2]) and is_chain(move, links, value[2], value[1])
    if value[0] == "loud" and len(value) == 4:
        return are_apart_loops(move, links, value[1], value[2], value[3])
    return False


def is_quiet(machine):
    """Whether all states of the machine are shallow or quiet."""
    return loud_state(machine) is None


def loud_state(machine):
    """The first state that is neither shallow nor quiet, or None."""
    check_machine(machine)
    rows = state_rows(machine)
    if are_single(rows):
        return None
    groups = alike_groups(rows, len(rows))
    wild = wild_places(busy_links(first_rows(rows, groups)))
    loud = [state for state, group in zip(machine, groups) if group in wild]
    return loud[0] if loud else None


def check_quiet(machine):
    """Refuses a machine that is not quiet."""
    state = loud_state(machine)
    if state is not None:
        raise Loud(state)


def is_calm(move):
    """Whether the move is shallow or quiet."""
    ranks = ranking_of(busy_links(move.rows))
    return ranks is not None and depth_of(ranks) <= 1


def depth_of(ranks):
    """The depth of a ranking."""
    return ranks[0][0] if ranks else 0


def first_counts(links):
    """How often each row that is not idle is the rest behind the empty text."""
    return {place: 1 if place == 0 else 0 for place in links}


def next_counts(links, counts):
    """The same behind texts of one letter more."""
    told = {place: 0 for place in links}
    for place in links:
        for _, behind in links[place]:
            told[behind] += counts[place]
    return told


def busy_numbers(links, length):
    """The busy numbers of the lengths from 0 to this one."""
    counts = first_counts(links)
    numbers = [sum(counts.values())]
    for _ in range(length):
        counts = next_counts(links, counts)
        numbers.append(sum(counts.values()))
    return numbers


def repeated_numbers(links):
    """The busy numbers ahead of the first ones that come again and again, and these."""
    counts = first_counts(links)
    seen = {}
    numbers = []
    for length in range(MAX_AHEAD + 1):
        told = tuple(list(counts.values()))
        if told in seen:
            return shortened(numbers[:seen[told]], numbers[seen[told]:])
        seen[told] = length
        numbers.append(sum(told))
        counts = next_counts(links, counts)
    raise TooMany(MAX_AHEAD)


def shortened(ahead, again):
    """The same endless row of numbers, with as few ahead as can be, and then as few again."""
    many = len(again)
    least = [size for size in range(1, many + 1) if many % size == 0 and again == again[:size] * (many // size)]
    again = again[:least[0]]
    ahead = list(ahead)
    while ahead and ahead[-1] == again[-1]:
        again = [ahead.pop(), *again[:-1]]
    return tuple(ahead), tuple(again)


def loud_paper(links):
    """A paper that shows two loops of which neither begins with the other one."""
    for place in links:
        inner = [letter for letter, behind in links[place] if place in reached_from(links, behind)]
        if len(inner) > 1:
            text, _ = way_to(links, 0, [place])
            return "loud", text, loop_by(links, place, inner[0]), loop_by(links, place, inner[1])
    return None


def chain_of(links, ranks):
    """Texts that lead from loop to loop, through all depths of the ranking, each with its loop."""
    chain = []
    place = 0
    for depth in range(depth_of(ranks), 0, -1):
        text, place = way_to(links, place, [one for one in ranks if ranks[one] == (depth, 0)])
        inner = [letter for letter, behind in links[place] if ranks[behind] == (depth, 0)]
        chain.append((text, loop_by(links, place, inner[0])))
    return tuple(chain)


def is_ranking(links, value):
    """Whether the value is a ranking of the move that has these links."""
    if not isinstance(value, dict) or len(value) != len(links):
        return False
    if not all([is_whole(place) and place in links and is_rank(value[place]) for place in value]):
        return False
    return all([is_ranked(value[place], [value[behind] for _, behind in links[place]]) for place in links])


def is_rank(value):
    """Whether the value is a pair of integers of at least 0."""
    if not isinstance(value, tuple) or len(value) != 2:
        return False
    return all([is_whole(part) and part >= 0 for part in value])


def is_ranked(rank, next_ranks):
    """Whether a row can have this rank if its next rows have those."""
    if all([one < rank for one in next_ranks]):
        return True
    others = [one for one in next_ranks if one != rank]
    if rank[0] == 0 or len(others) != len(next_ranks) - 1:
        return False
    return all([depth < rank[0] for depth, _ in others])


def is_chain(move, links, ranks, value):
    """Whether the value leads from loop to loop, as many as the ranking is deep."""
    if not isinstance(value, tuple) or not value or len(value) != depth_of(ranks):
        return False
    place = 0
    depth = None
    for pair in value:
        if not isinstance(pair, tuple) or len(pair) != 2 or not is_text(move.letters, pair[0]):
            return False
        place = led_from(move.rows, place, pair[0])[1]
        if not is_loop(move, links, place, pair[1]):
            return False
        if depth is not None and ranks[place][0] >= depth:
            return False
        depth = ranks[place][0]
    return True


def is_loop(move, links, place, value):
    """Whether the row is not idle, and the value is a loop of it."""
    if place not in links or not is_text(move.letters, value) or value == "":
        return False
    return led_from(move.rows, place, value)[1] == place


def are_apart_loops(move, links, text, one, other):
    """Whether both are loops of the rest behind the text, and neither begins with the other one."""
    if not is_text(move.letters, text):
        return False
    place = led_from(move.rows, 0, text)[1]
    if not is_loop(move, links, place, one) or not is_loop(move, links, place, other):
        return False
    return not one.startswith(other) and not other.startswith(one)
