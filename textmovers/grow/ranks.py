"""Ranks of the rows of a least form that are not idle: how loops stand behind loops.

The links of a move are a dict from the numbers of these rows to the tuples of
pairs (letter, number) that lead from each of them to one of them again.
"""


def busy_links(rows):
    """The links of the move of a least form."""
    still = still_place(rows)
    links = {}
    for place, (_, nexts) in enumerate(rows):
        if place != still:
            links[place] = tuple([(letter, behind) for letter, behind in enumerate(nexts) if behind != still])
    return links


def still_place(rows):
    """The number of the idle row of a least form, or None if it has none."""
    for place, (turn, nexts) in enumerate(rows):
        if is_still_row(place, turn, nexts):
            return place
    return None


def ranking_of(links):
    """A ranking of as small depths as can be, or None if there is none.

    Just the rows that have loops have a place of 0 at a depth of 1 or more.
    """
    reached = {place: reached_from(links, place) for place in links}
    circles = {place: [one for one in reached[place] if place in reached[one]] for place in links}
    for place in links:
        if len(inner_letters(links, circles, place)) > 1:
            return None
    ranks = {}
    # What a row reaches outside of its circle reaches fewer rows, itself counted.
    for size in range(1, len(links) + 1):
        for place in links:
            if len([one for one in links if one == place or one in reached[place]]) == size:
                ranks[place] = rank_of(links, circles[place], place, ranks)
    return {place: ranks[place] for place in links}


def reached_from(links, first):
    """The numbers of the rows that are reached from a row by one letter or more."""
    found = {}
    waiting = [first]
    while waiting:
        place = waiting.pop()
        for _, behind in links[place]:
            if behind not in found:
                found[behind] = True
                waiting.append(behind)
    return found


def inner_letters(links, circles, place):
    """The letters that lead from a row to a row from which it is reached again."""
    return [letter for letter, behind in links[place] if behind in circles[place]]


def rank_of(links, circle, place, ranks):
    """The rank of a row by the ranks of the rows that are reached outside of its circle."""
    if circle:
        outside = [ranks[behind] for one in circle for _, behind in links[one] if behind not in circle]
        return 1 + max([int(depth) for depth, _ in outside], default=0), 0
    behind_it = [ranks[behind] for _, behind in links[place]]
    deepest = max([int(depth) for depth, _ in behind_it], default=0)
    return deepest, max([int(at) + 1 for depth, at in behind_it if depth == deepest], default=0)


def are_single(rows):
    """Whether each of the rows is seen to go on by one letter at most, so that there is one loop behind it at most."""
    still = [place for place, (turn, nexts) in enumerate(rows) if is_still_row(place, turn, nexts)]
    return all([len([behind for behind in nexts if behind not in still]) < 2 for _, nexts in rows])


def is_still_row(place, turn, nexts):
    """Whether a row leaves each letter, and goes on in itself."""
    return turn == tuple(range(len(turn))) and all([behind == place for behind in nexts])


def wild_places(links):
    """The rows that are neither shallow nor quiet: they reach two loops of one row, or loops behind loops."""
    reached = {place: reached_from(links, place) for place in links}
    looped = [place for place in links if place in reached[place]]
    wild = {}
    for place in looped:
        inner = [behind for _, behind in links[place] if behind == place or place in reached[behind]]
        later = [one for one in looped if one in reached[place] and place not in reached[one]]
        if len(inner) > 1 or later:
            wild[place] = True
    return [place for place in links if place in wild or any([one in wild for one in reached[place]])]


def way_to(links, first, goals):
    """The least text that leads from a row to one of the goals, and this goal; None if none does."""
    ways = {first: ""}
    order = [first]
    at = 0
    while at < len(order):
        place = order[at]
        if place in goals:
            return ways[place], place
        for letter, behind in links[place]:
            if behind not in ways:
                ways[behind] = ways[place] + str(letter)
                order.append(behind)
        at += 1
    return None


def loop_by(links, place, letter):
    """The least loop of a row that begins with a letter which leads into its circle."""
    behind = dict(links[place])[letter]
    return str(letter) + way_to(links, behind, [place])[0]
