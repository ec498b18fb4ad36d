"""How texts are led along ring-rests: letter by letter, however often a move is done."""

from textmovers.base.letters import DIGITS


def ring_spots(rests, text):
    """The spots of the ring-rests behind all beginnings of a text, behind the whole of it, too."""
    spots = [(0, 0)]
    for sign in text:
        spots.append(rests.told_behind(spots[-1], int(sign)))
    return spots


def led_by_spots(rests, spots, text, number):
    """The text to which so many times the move lead the text that has these ring-rests."""
    parts = []
    for spot, sign in zip(spots, text):
        ring = rests.ring_at(spot, int(sign))
        number, at = divmod(number, len(ring))
        parts.append((spot, ring[:at], ring[at]))
    come = ""
    # What is left over behind each letter is done behind all whole rings of it.
    for spot, passed, last in parts[::-1]:
        if passed:
            rows, still = rests.table_at(spot)
            _, nexts = rests.row_at(spot)
            for letter in passed:
                come = led_on(rows, still, nexts[letter], come)
        come = DIGITS[last] + come
    return come


def times_by_spots(rests, spots, text, other_text):
    """How often the move must be done at least until it has led the text that has these ring-rests to the other one."""
    number = 0
    many = 1
    aim = other_text
    for spot, sign in zip(spots, text):
        ring = rests.ring_at(spot, int(sign))
        last = int(aim[0])
        if last not in ring:
            return None
        passed = ring[:ring.index(last)]
        aim = aim[1:]
        if passed:
            rows, still = rests.back_table_at(spot)
            _, nexts = rests.row_at(spot)
            for letter in passed[::-1]:
                aim = led_on(rows, still, nexts[letter], aim)
        number = number + many * len(passed)
        many = many * len(ring)
    return number


def led_on(rows, still, place, text):
    """The text to which the row at a place leads a text, told as far as the rows are not still."""
    parts = []
    while text and place != still:
        sign = text[0]
        letter = int(sign)
        turn, nexts = rows[place]
        left = text[1:]
        if nexts[letter] == place:
            # A row that goes on in itself does the same with all letters of a run.
            left = left.lstrip(sign)
        parts.append(DIGITS[turn[letter]] * (len(text) - len(left)))
        place = nexts[letter]
        text = left
    return "".join(parts) + text
