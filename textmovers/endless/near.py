"""Which endless texts are near one another: led to one another by few steps, however long their ends are."""

from textmovers.base.letters import check_length
from textmovers.base.rows import led_from
from textmovers.base.whole import is_between
from textmovers.core.cores import core_rows
from textmovers.endless.texts import Endless, far_end, made_endless
from textmovers.endless.walks import (
    are_led, common_loop, far_from, letters_ahead, rounds_of, tail_length, walk_rounds, walked, walked_from,
)
from textmovers.errors import InvalidText, TooMany
from textmovers.machine.machines import check_machine
from textmovers.move.moves import Move
from textmovers.move.tables import rows_from

MAX_TOLD = 100000
MAX_GROUPED = 12


def leaders(machine, endless, other_endless, length):
    """The moves of the core that lead the end of one text of this length to that of the other one."""
    check_both(machine, endless, other_endless)
    check_length(length)
    rows = core_rows(machine)
    return moves_at(machine, rows, list(walked(rows, endless.end(length), other_endless.end(length))))


def end_moves(machine, endless, other_endless):
    """The end moves of all walks from one text to the other one."""
    check_both(machine, endless, other_endless)
    rows = core_rows(machine)
    tail = tail_length(endless, other_endless)
    ends = walked(rows, far_end(endless, tail), far_end(other_endless, tail))
    found = {ends[place]: True for place in walk_rounds(rows, endless, other_endless)}
    return moves_at(machine, rows, [place for place in range(len(rows)) if place in found])


def are_near(machine, endless, other_endless):
    """Whether both texts are near one another."""
    check_both(machine, endless, other_endless)
    return len(walk_rounds(core_rows(machine), endless, other_endless)) > 0


def near_ones(machine, endless):
    """All endless texts that are near this one, ascending."""
    check_machine(machine)
    check_endless(machine, endless)
    rows = core_rows(machine)
    come = [led_from(rows, place, endless.ring) for place in range(len(rows))]
    ahead = {place: behind for place, (_, behind) in enumerate(come)}
    rounds = rounds_of(ahead)
    found = []
    for first in rounds:
        ring = ""
        place = first
        for _ in range(rounds[first]):
            ring, place = ring + come[place][0], ahead[place]
        tail, _ = led_from(rows, first, endless.tail)
        one = made_endless(machine.letters, ring, tail)
        if one not in found:
            found.insert(len([other for other in found if other < one]), one)
    return tuple(found)


def near_groups(machine, *endless_texts):
    """The groups of the indices of those texts that are near one another."""
    check_machine(machine)
    if not 1 <= len(endless_texts) <= MAX_GROUPED:
        raise InvalidText("not one to twelve endless texts")
    for one in endless_texts:
        check_endless(machine, one)
    rows = core_rows(machine)
    groups = []
    for index, one in enumerate(endless_texts):
        near = [at for at, group in enumerate(groups) if walk_rounds(rows, endless_texts[group[0]], one)]
        if near:
            groups[near[0]].append(index)
        else:
            groups.append([index])
    return tuple([tuple(group) for group in groups])


def near_paper(machine, endless, other_endless):
    """A paper that shows whether both texts are near one another."""
    check_both(machine, endless, other_endless)
    rows = core_rows(machine)
    rounds = walk_rounds(rows, endless, other_endless)
    if not rounds:
        length = far_from(rows, endless, other_endless)
        check_told(length)
        return "far", length
    many = min([int(rounds[place]) for place in rounds])
    place = [place for place in rounds if rounds[place] == many][0]
    length = tail_length(endless, other_endless)
    loop = many * common_loop(endless, other_endless)
    check_told(max(int(length), loop))
    return "near", move_at(machine, rows, place), length, loop


def is_near_paper(machine, endless, other_endless, value):
    """Whether the value is such a paper, whoever made it."""
    check_both(machine, endless, other_endless)
    rows = core_rows(machine)
    if not isinstance(value, tuple) or not value:
        return False
    if value[0] == "near" and len(value) == 4:
        return is_round_walk(rows, endless, other_endless, value)
    if value[0] == "far" and len(value) == 2 and is_between(value[1], 0, MAX_TOLD):
        return not are_led(rows, endless, other_endless, value[1])
    return False


def far_length(machine, endless, other_endless):
    """The least length whose ends no move of the core leads to one another, or None if the texts are near."""
    check_both(machine, endless, other_endless)
    rows = core_rows(machine)
    if walk_rounds(rows, endless, other_endless):
        return None
    return far_from(rows, endless, other_endless)


def check_endless(machine, endless):
    """Refuses what is no endless text of the letters of the machine."""
    if not isinstance(endless, Endless) or endless.letters != machine.letters:
        raise InvalidText("no endless text of the letters of the machine")


def check_both(machine, endless, other_endless):
    """Refuses what is no machine, and then what is no endless text of its letters."""
    check_machine(machine)
    check_endless(machine, endless)
    check_endless(machine, other_endless)


def check_told(number):
    """Refuses a number that no paper may tell."""
    if number > MAX_TOLD:
        raise TooMany(MAX_TOLD)


def move_at(machine, rows, place):
    """The move of the core at a place."""
    return Move.of(machine.letters, rows_from(rows, place))


def moves_at(machine, rows, places):
    """The moves of the core at these places."""
    return tuple([move_at(machine, rows, place) for place in places])


def is_round_walk(rows, endless, other_endless, value):
    """Whether the value tells a move, a length and a loop of a walk that comes round."""
    _, move, length, loop = value
    if not is_between(length, tail_length(endless, other_endless), MAX_TOLD) or not is_between(loop, 1, MAX_TOLD):
        return False
    if loop % common_loop(endless, other_endless) != 0 or not isinstance(move, Move):
        return False
    places = [place for place in range(len(rows)) if rows_from(rows, place) == move.rows]
    if not places:
        return False
    ahead = [letters_ahead(one, length, loop) for one in (endless, other_endless)]
    ends = [far_end(one, length) for one in (endless, other_endless)]
    if walked_from(rows, places[0], ahead[0], ahead[1]) != places[0]:
        return False
    return walked_from(rows, places[0], ends[0], ends[1]) is not None
