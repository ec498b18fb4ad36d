"""Tables of rows, one behind the other, and what needs what."""


def shifted_rows(rows, by):
    """The same rows, standing so many places further on."""
    return [(turn, tuple([behind + by for behind in nexts])) for turn, nexts in rows]


def resolved(needs):
    """The places, each behind all that it needs; those that need themselves in the end are left out."""
    users = [[] for _ in needs]
    for place, needed in enumerate(needs):
        for one in needed:
            users[one].append(place)
    left = [len(needed) for needed in needs]
    order = [place for place, many in enumerate(left) if many == 0]
    at = 0
    while at < len(order):
        place = order[at]
        at += 1
        for user in users[place]:
            left[user] -= 1
            if left[user] == 0:
                order.append(user)
    return order
