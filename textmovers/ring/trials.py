"""Texts without any order, always the same ones, by which unlike moves are soon told apart."""

from textmovers.base.letters import MAX_RESTS

TRIAL = (
    4, 10, 7, 11, 9, 10, 7, 2, 7, 5, 10, 7, 8, 10, 1, 9, 10, 4, 8, 6, 11, 2, 1, 6, 4, 5, 0, 7, 1, 11,
    1, 9, 11, 0, 7, 1, 7, 3, 4, 6, 2, 1, 0, 5, 1, 9, 2, 9, 6, 5, 8, 8, 1, 5, 1, 2, 0, 9, 7, 4,
)
# So many letters have some thousand texts.
SHORT = {2: 12, 3: 8, 4: 6}

# Products are first tried when there are so many, and again whenever there are twice as many.
FIRST_TRIED = MAX_RESTS + 4
# One in so many of them is tried by a long text.
FAR_TRIED = 10


class Trials:
    """What the products of rests in a table do to a short text, and some of them to a long one."""

    def __init__(self, rows):
        self._rows = rows
        letters = len(rows[0][0])
        self._short = short_trial(letters)
        self._far = tuple([number % letters for number in TRIAL])
        self._firsts = {}
        self._shown = {}
        self._far_shown = {}
        self._tried = 0
        self._next = FIRST_TRIED

    def are_too_many(self, products, at):
        """Whether more than sixty of these products are seen to be unlike; the one at this place is looked at next."""
        if at % FAR_TRIED == 0 and at >= MAX_RESTS:
            self._far_shown[self.led(products[at], self._far)] = True
        if len(products) >= self._next:
            for product in products[self._tried:]:
                self._shown[self.led(product, self._short)] = True
            self._tried = len(products)
            self._next = 2 * len(products)
        return len(self._shown) > MAX_RESTS or len(self._far_shown) > MAX_RESTS

    def led(self, places, text):
        """The letters to which the rows at these places lead some letters, one after the other."""
        if places:
            first = (places[0], len(text))
            if first not in self._firsts:
                self._firsts[first] = led_letters(self._rows, places[0], text)
            text = self._firsts[first]
        for place in places[1:]:
            text = led_letters(self._rows, place, text)
        return text


def short_trial(letters):
    """A short text without any order."""
    return tuple([number % letters for number in TRIAL[:SHORT[letters]]])


def led_letters(rows, place, text):
    """The letters to which the row at a place leads some letters."""
    come = []
    for letter in text:
        turn, nexts = rows[place]
        come.append(turn[letter])
        place = nexts[letter]
    return tuple(come)
