"""Making the core of a quiet machine: a table of rows, none of them alike.

Whatever is left behind longer and longer texts stands behind loops. So the core
is what lasts of the steps, and then of its products with steps, until nothing
new comes.
"""

from textmovers.base.letters import MAX_RESTS
from textmovers.base.rows import undone_row
from textmovers.core.graphs import lasting_places, pair_rows, part_rows, shifted_rows
from textmovers.errors import TooMany
from textmovers.move.moves import idle_rows
from textmovers.move.tables import alike_groups, first_rows, rows_from


def core_table(machine):
    """The rows of the core of a quiet machine, in its order, and for each the steps of a word of its move."""
    steps = [(state, sign) for state in machine for sign in (1, -1)]
    behind = step_rows(machine)
    # The idle row comes first, so that its word is the empty one.
    table = [*idle_rows(machine.letters), *shifted_rows(behind, 1)]
    rows, ways = lasting_part(table, [[], *[[step] for step in steps]])
    many = 0
    while many < len(rows):
        many = len(rows)
        table = [*rows, *shifted_rows(pair_rows(rows, behind), many)]
        rows, ways = lasting_part(table, [*ways, *[[*way, step] for way in ways for step in steps]])
    return in_order(rows, ways)


def step_rows(machine):
    """The rows of all steps: for each state, by the names, one of it and one of the undone one."""
    places = {state: 2 * at for at, state in enumerate(machine)}
    rows = []
    for state in machine:
        nexts = tuple([places[behind] for behind in machine.nexts(state)])
        rows.append((machine.turn(state), nexts))
        rows.append(undone_row(machine.turn(state), tuple([place + 1 for place in nexts])))
    return rows


def lasting_part(table, ways):
    """The unlike rows that stand behind loops, and for each the first of the ways that are told for it."""
    places = lasting_places(table)
    lasting = part_rows(table, places)
    groups = alike_groups(lasting, MAX_RESTS)
    if groups is None:
        raise TooMany(MAX_RESTS)
    firsts = {}
    for place, group in zip(places, groups):
        firsts.setdefault(group, ways[place])
    rows = first_rows(lasting, groups)
    return rows, [firsts[group] for group in range(len(rows))]


def in_order(rows, ways):
    """The rows and their ways in the order of the moves that the rows tell."""
    forms = [rows_from(rows, place) for place in range(len(rows))]
    places = []
    for place, form in enumerate(forms):
        less = [one for one in places if (len(forms[one]), forms[one]) < (len(form), form)]
        places.insert(len(less), place)
    return part_rows(rows, places), [ways[place] for place in places]
