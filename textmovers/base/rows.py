"""Rows: pairs (turn, nexts) that tell what is done with the first letter of a
text, and for each letter the place of the row that goes on behind it.

A place is a name in the tables of machines and a number in those of moves.
"""


def undone_turn(turn):
    """The turn that leads each letter back."""
    back = list(turn)
    for letter, come in enumerate(turn):
        back[come] = letter
    return tuple(back)


def undone_row(turn, nexts):
    """The row that leads back what this row leads."""
    back = undone_turn(turn)
    return back, tuple([nexts[letter] for letter in back])


def led_from(table, place, text):
    """The text to which the row at a place leads a text, and the place behind it."""
    signs = []
    for sign in text:
        turn, nexts = table[place]
        letter = int(sign)
        signs.append(str(turn[letter]))
        place = nexts[letter]
    return "".join(signs), place


def shown_turn(turn):
    """The letters of a turn side by side."""
    return "".join([str(letter) for letter in turn])
