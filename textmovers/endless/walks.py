"""Walks between endless texts: moves of the core, one for each length of the ends.

The rows are those of the core. A walk is read from far on the left, where it goes on
for ever: behind both tails it comes round, since there are few moves, and each of them
tells the next one to the right.
"""

from math import lcm

from textmovers.endless.texts import far_end


def walked_from(rows, place, text, other_text):
    """The place behind a text that the move at a place leads to another one, or None if it does not."""
    for sign, come in zip(text, other_text):
        turn, nexts = rows[place]
        letter = int(sign)
        if turn[letter] != int(come):
            return None
        place = nexts[letter]
    return place


def walked(rows, text, other_text):
    """For each place whose move leads a text to another one the place behind."""
    behind = [walked_from(rows, place, text, other_text) for place in range(len(rows))]
    return {place: end for place, end in enumerate(behind) if end is not None}


def tail_length(one, other):
    """The least length behind which only rings stand."""
    return max(len(one.tail), len(other.tail))


def common_loop(one, other):
    """The least length after which the letters of both texts come again."""
    return lcm(len(one.ring), len(other.ring))


def letters_ahead(endless, length, many):
    """So many letters ahead of the end of a length."""
    return far_end(endless, length + many)[:many]


def walk_rounds(rows, one, other):
    """Each place that a walk between both texts has behind the tails, and after how many loops it comes again."""
    loop = common_loop(one, other)
    # Whatever is near a text comes again after as many of its rings as there are
    # moves, or fewer: so no walk has a longer loop.
    if loop > len(rows) * min(len(one.ring), len(other.ring)):
        return {}
    tail = tail_length(one, other)
    ahead = walked(rows, letters_ahead(one, tail, loop), letters_ahead(other, tail, loop))
    rounds = rounds_of(ahead)
    ends = walked(rows, far_end(one, tail), far_end(other, tail))
    return {place: rounds[place] for place in rounds if place in ends}


def rounds_of(ahead):
    """The places that come again, if each place is followed by the one told for it, and after how many steps."""
    rounds = {}
    for first in ahead:
        place = ahead[first]
        many = 1
        while place != first and many <= len(ahead) and place in ahead:
            place = ahead[place]
            many += 1
        if place == first:
            rounds[first] = many
    return rounds


def are_led(rows, one, other, length):
    """Whether some move of the core leads the end of one text of this length to that of the other one."""
    text = far_end(one, length)
    other_text = far_end(other, length)
    for place in range(len(rows)):
        if walked_from(rows, place, text, other_text) is not None:
            return True
    return False


def far_from(rows, one, other):
    """The least length of which no move leads the end of one text to that of the other one, if there is one."""
    high = 1
    while are_led(rows, one, other, high):
        high = 2 * high
    low = high // 2
    # Texts that are led have ends that are led, so the lengths part at one place.
    while high - low > 1:
        middle = (low + high) // 2
        if are_led(rows, one, other, middle):
            low = middle
        else:
            high = middle
    return high
