"""Tables of rows as graphs: what stands behind loops, and what does not."""


def pair_rows(rows, other_rows):
    """The rows of all products of a row of one table and one of the other, in the order of the pairs."""
    many = len(other_rows)
    told = []
    for turn, nexts in rows:
        for other_turn, other_nexts in other_rows:
            places = [behind * many + other_nexts[turn[letter]] for letter, behind in enumerate(nexts)]
            told.append((tuple([other_turn[letter] for letter in turn]), tuple(places)))
    return told


def shifted_rows(rows, by):
    """The same rows, standing so many places further on."""
    return [(turn, tuple([behind + by for behind in nexts])) for turn, nexts in rows]


def part_rows(rows, places):
    """The rows at these places, in this order, as a table of their own."""
    numbers = {place: number for number, place in enumerate(places)}
    told = []
    for place in places:
        turn, nexts = rows[place]
        told.append((turn, tuple([numbers[behind] for behind in nexts])))
    return told


def lasting_places(rows):
    """The places that are reached by texts of all lengths from some row: those behind loops."""
    ahead = [[] for _ in rows]
    for place, (_, nexts) in enumerate(rows):
        for behind in nexts:
            ahead[behind].append(place)
    passing = {place: True for place in resolved(ahead)}
    return [place for place in range(len(rows)) if place not in passing]


def resolved(needs):
    """The places, each behind all that it needs; those that need themselves in the end are left out."""
    users = [[] for _ in needs]
    for place, needed in enumerate(needs):
        for one in needed:
            users[one].append(place)
    left = [len(needed) for needed in needs]
    order = [place for place, many in enumerate(left) if many == 0]
    at = 0
    while at < len(order):
        place = order[at]
        at += 1
        for user in users[place]:
            left[user] -= 1
            if left[user] == 0:
                order.append(user)
    return order
