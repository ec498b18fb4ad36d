"""Tables of moves: tuples of rows (turn, nexts), whose nexts are numbers of rows.

Each row tells a move. A table tells that of its row 0.
"""

from textmovers.base.rows import undone_row


class LeastForm:
    """The rows of a least form, told to be one, so that they need not be looked at again."""

    def __init__(self, told):
        self.told = told


def idle_rows(letters):
    """The least form of the idle move."""
    return ((tuple(range(letters)), (0,) * letters),)


def rows_from(rows, first):
    """The rows that are reached from one row, numbered as they are met from it on."""
    numbers = {first: 0}
    order = [first]
    told = []
    while len(told) < len(order):
        turn, nexts = rows[order[len(told)]]
        for behind in nexts:
            if behind not in numbers:
                numbers[behind] = len(order)
                order.append(behind)
        told.append((turn, tuple([numbers[behind] for behind in nexts])))
    return tuple(told)


def least_rows(rows, most):
    """The least form of the move of row 0, or None if it has more than so many rows."""
    return least_of_met(rows_from(rows, 0), most)


def least_of_met(rows, most):
    """The same for rows that are all reached from row 0, and numbered as they are met from it on."""
    groups = alike_groups(rows, most)
    if groups is None:
        return None
    # Groups are numbered by their first rows, and these stand in the order in
    # which the least texts lead to them: so the groups have the least form's order.
    return tuple(first_rows(rows, groups))


def first_rows(rows, groups):
    """A row for each group of alike rows, in the order of their numbers."""
    firsts = []
    for group, (turn, nexts) in zip(groups, rows):
        if group == len(firsts):
            firsts.append((turn, tuple([groups[behind] for behind in nexts])))
    return firsts


def alike_groups(rows, most):
    """For each row the number of its group of alike rows, or None if there are more than so many."""
    groups, many = numbered([turn for turn, _ in rows])
    behind = [nexts for _, nexts in rows]
    columns = list(zip(*behind))
    ahead = 0
    # Groups are only ever cut, so too many now are too many in the end, and single rows stay single.
    while ahead < many <= most and many < len(rows):
        ahead = many
        for column in columns:
            groups, many = numbered([group * many + groups[place] for group, place in zip(groups, column)])
    return None if many > most else groups


def numbered(marks):
    """For each mark its number, in the order in which they first stand, and how many unlike marks there are."""
    firsts = {mark: True for mark in marks}
    numbers = {mark: number for number, mark in enumerate(firsts)}
    return [numbers[mark] for mark in marks], len(numbers)


def product_rows(rows, other_rows):
    """The rows that do what the first table does and then what the other one does, numbered as they are met."""
    many = len(other_rows)
    # A pair of places is told by one number.
    order = [0]
    numbers = {0: 0}
    told = []
    while len(told) < len(order):
        one, other = divmod(order[len(told)], many)
        turn, nexts = rows[one]
        other_turn, other_nexts = other_rows[other]
        pairs = [behind * many + other_nexts[come] for come, behind in zip(turn, nexts)]
        for pair in pairs:
            if pair not in numbers:
                numbers[pair] = len(order)
                order.append(pair)
        told.append((tuple([other_turn[come] for come in turn]), tuple([numbers[pair] for pair in pairs])))
    return tuple(told)


def undone_rows(rows):
    """The rows that lead back what these rows lead."""
    return tuple([undone_row(turn, nexts) for turn, nexts in rows])


def joined_rows(turn, tables):
    """The rows of a move with this turn that goes on behind each letter as a table tells."""
    starts = []
    many = 1
    for rows in tables:
        starts.append(many)
        many = many + len(rows)
    told = [(turn, tuple(starts))]
    for start, rows in zip(starts, tables):
        for one_turn, nexts in rows:
            told.append((one_turn, tuple([start + behind for behind in nexts])))
    return tuple(told)
