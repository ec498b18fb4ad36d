"""Tables of moves: tuples of rows (turn, nexts), whose nexts are numbers of rows.

Each row tells a move. A table tells that of its row 0.
"""

from textmovers.base.rows import undone_row


def rows_from(rows, first):
    """The rows that are reached from one row, numbered as they are met from it on."""
    numbers = {first: 0}
    order = [first]
    told = []
    while len(told) < len(order):
        turn, nexts = rows[order[len(told)]]
        for behind in nexts:
            if behind not in numbers:
                numbers[behind] = len(order)
                order.append(behind)
        told.append((turn, tuple([numbers[behind] for behind in nexts])))
    return tuple(told)


def least_rows(rows, most):
    """The least form of the move of row 0, or None if it has more than so many rows."""
    reached = rows_from(rows, 0)
    groups = alike_groups(reached, most)
    if groups is None:
        return None
    # Groups are numbered by their first rows, and these stand in the order in
    # which the least texts lead to them: so the groups have the least form's order.
    return tuple(first_rows(reached, groups))


def first_rows(rows, groups):
    """A row for each group of alike rows, in the order of their numbers."""
    firsts = []
    for group, (turn, nexts) in zip(groups, rows):
        if group == len(firsts):
            firsts.append((turn, tuple([groups[behind] for behind in nexts])))
    return firsts


def alike_groups(rows, most):
    """For each row the number of its group of alike rows, or None if there are more than so many."""
    groups = numbered([turn for turn, _ in rows])
    many = 0
    # Groups are only ever cut, so too many now are too many in the end.
    while many < len(set(groups)) <= most:
        many = len(set(groups))
        marks = [(group, tuple([groups[behind] for behind in nexts])) for group, (_, nexts) in zip(groups, rows)]
        groups = numbered(marks)
    if len(set(groups)) > most:
        return None
    return groups


def numbered(marks):
    """For each mark its number, equal marks having one, in the order in which they first stand."""
    numbers = {}
    told = []
    for mark in marks:
        if mark not in numbers:
            numbers[mark] = len(numbers)
        told.append(numbers[mark])
    return told


def product_rows(rows, other_rows):
    """The rows that do what the first table does and then what the other one does."""
    numbers = {(0, 0): 0}
    pairs = [(0, 0)]
    told = []
    while len(told) < len(pairs):
        one, other = pairs[len(told)]
        turn, nexts = rows[one]
        other_turn, other_nexts = other_rows[other]
        places = []
        for letter in range(len(turn)):
            pair = (nexts[letter], other_nexts[turn[letter]])
            if pair not in numbers:
                numbers[pair] = len(pairs)
                pairs.append(pair)
            places.append(numbers[pair])
        told.append((tuple([other_turn[letter] for letter in turn]), tuple(places)))
    return tuple(told)


def undone_rows(rows):
    """The rows that lead back what these rows lead."""
    return tuple([undone_row(turn, nexts) for turn, nexts in rows])


def joined_rows(turn, tables):
    """The rows of a move with this turn that goes on behind each letter as a table tells."""
    starts = []
    many = 1
    for rows in tables:
        starts.append(many)
        many = many + len(rows)
    told = [(turn, tuple(starts))]
    for start, rows in zip(starts, tables):
        for one_turn, nexts in rows:
            told.append((one_turn, tuple([start + behind for behind in nexts])))
    return tuple(told)
