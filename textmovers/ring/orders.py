"""Orders of moves: how often a move must be done until nothing is moved, and papers that show it."""

from math import lcm

from textmovers.base.letters import is_text
from textmovers.base.whole import is_passed, is_whole
from textmovers.errors import InvalidNumber
from textmovers.grow.ranks import reached_from, way_to
from textmovers.move.moves import check_move
from textmovers.ring.rings import ring_table


def order(move):
    """The least number of times after which nothing is moved, or None if there is none."""
    told = measures(move)
    return None if told is None else told[0]


def measures(move):
    """The orders of all ring-rests, in their order, or None if the move has no order."""
    return least_measures(ring_table(move))


def is_idle_after(move, number):
    """Whether so many times the move, or its undone one, are idle."""
    check_move(move)
    if not is_passed(number):
        raise InvalidNumber(number)
    least = order(move)
    return number == 0 if least is None else number % least == 0


def order_paper(move):
    """A paper that shows the order of the move, or that it has none."""
    table = ring_table(move)
    told = least_measures(table)
    if told is None:
        return spine_paper(table)
    # No ring of one letter has a length with another prime divisor.
    shown = [text_of_power(table, told, prime) for prime in (2, 3) if told[0] % prime == 0]
    return "order", told[0], told, tuple(shown)


def is_order_paper(move, value):
    """Whether the value is such a paper, whoever made it."""
    table = ring_table(move)
    if not isinstance(value, tuple) or not value:
        return False
    if value[0] == "order" and len(value) == 4:
        _, number, told, shown = value
        return are_measures(table, number, told) and are_of_order(move, table, number, shown)
    if value[0] == "spine" and len(value) == 3:
        return is_spine(move, table, value[1], value[2])
    return False


def least_measures(table):
    """The least measures by a table of rings, or None if there are none."""
    told = (1,) * len(table)
    # A loop without longer rings adds nothing, so each way that counts passes
    # each ring-rest once at most.
    for _ in range(len(table) + 1):
        grown = tuple([common_measure(told, pairs) for pairs in table])
        if grown == told:
            return told
        told = grown
    return None


def common_measure(told, pairs):
    """The least number that all rings of letters divide, each with the measure behind it."""
    least = 1
    for length, behind in pairs:
        least = lcm(least, length * told[behind])
    return least


def ring_links(table):
    """The ring-rests behind the letters, as pairs (letter, index)."""
    links = {}
    for place, pairs in enumerate(table):
        links[place] = tuple([(letter, behind) for letter, (_, behind) in enumerate(pairs)])
    return links


def text_of_power(table, told, prime):
    """A text whose ring has a length that the same power of a prime divides as the order."""
    powers = [power_in(number, prime) for number in told]
    links = {}
    for place, pairs in enumerate(table):
        links[place] = tuple([
            (letter, behind) for letter, (length, behind) in enumerate(pairs)
            if power_in(length, prime) + powers[behind] == powers[place]
        ])
    return way_to(links, 0, [place for place, power in enumerate(powers) if power == 0])[0]


def power_in(number, prime):
    """How often the prime divides the number."""
    power = 0
    while number % prime == 0:
        number = number // prime
        power += 1
    return power


def spine_paper(table):
    """A paper with a spine, of a table of rings that has one."""
    links = ring_links(table)
    for place, pairs in enumerate(table):
        for letter, (length, behind) in enumerate(pairs):
            if length > 1 and place in reached_from(links, behind):
                return "spine", way_to(links, 0, [place])[0], str(letter) + way_to(links, behind, [place])[0]
    return None


def ring_by_table(table, place, text):
    """The length of the ring of a text under a ring-rest, and the index of the ring-rest behind it."""
    many = 1
    for sign in text:
        length, place = table[place][int(sign)]
        many = many * length
    return many, place


def are_measures(table, number, value):
    """Whether the value is a tuple of measures, the first of which is the number."""
    if not is_whole(number) or not isinstance(value, tuple) or len(value) != len(table):
        return False
    if not all([is_whole(one) and one >= 1 for one in value]) or value[0] != number:
        return False
    return all([one % common_measure(value, pairs) == 0 for one, pairs in zip(value, table)])


def are_of_order(move, table, number, value):
    """Whether the value is a tuple of texts whose rings have the number as their least common multiple."""
    if not isinstance(value, tuple) or not all([is_text(move.letters, text) for text in value]):
        return False
    least = 1
    for text in value:
        least = lcm(least, ring_by_table(table, 0, text)[0])
    return least == number


def is_spine(move, table, ahead, loop):
    """Whether both texts are a spine of the move."""
    if not is_text(move.letters, ahead) or not is_text(move.letters, loop) or loop == "":
        return False
    _, place = ring_by_table(table, 0, ahead)
    many, behind = ring_by_table(table, place, loop)
    return many > 1 and behind == place
