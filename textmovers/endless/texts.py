"""Texts that go on without end to the left."""

from textmovers.base.letters import check_length, check_letters, check_text, is_text
from textmovers.errors import InvalidText

MAX_RING = 12
MAX_TAIL = 40


class Endless:
    """An endless text: a ring again and again, and a tail behind it. It never changes."""

    def __init__(self, letters, ring, *, tail=""):
        check_letters(letters)
        if not is_text(letters, ring) or not 1 <= len(ring) <= MAX_RING:
            raise InvalidText("no text for a ring")
        if not is_text(letters, tail) or len(tail) > MAX_TAIL:
            raise InvalidText("no text for a tail")
        self._letters = letters
        self._ring, self._tail = least_parts(ring, tail)
        self._many = len(self._ring) + len(self._tail)

    @property
    def letters(self):
        """The number of letters."""
        return self._letters

    @property
    def ring(self):
        """The ring of the least form."""
        return self._ring

    @property
    def tail(self):
        """The tail of the least form."""
        return self._tail

    def end(self, length):
        """The text of the last letters, so many."""
        check_length(length)
        return far_end(self, length)

    def put(self, text):
        """The endless text with a text behind."""
        check_text(self._letters, text)
        return made_endless(self._letters, self._ring, self._tail + text)

    def cut(self, number):
        """The endless text without so many last letters."""
        check_length(number)
        left = len(self._tail) - number
        if left >= 0:
            return made_endless(self._letters, self._ring, self._tail[:left])
        at = left % len(self._ring)
        return made_endless(self._letters, self._ring[at:] + self._ring[:at], "")

    def __eq__(self, other):
        if not isinstance(other, Endless):
            return NotImplemented
        return (self._letters, self._many, self._ring, self._tail) == (
            other._letters, other._many, other._ring, other._tail)

    def __lt__(self, other):
        if not isinstance(other, Endless):
            return NotImplemented
        return (self._letters, self._many, self._ring, self._tail) < (
            other._letters, other._many, other._ring, other._tail)

    def __str__(self):
        return f"({self._ring}){self._tail}"


def made_endless(letters, ring, tail):
    """The endless text with this ring and this tail, however long they are."""
    made = Endless(letters, "0")
    made._ring, made._tail = least_parts(ring, tail)
    made._many = len(made._ring) + len(made._tail)
    return made


def least_parts(ring, tail):
    """The shortest tail, and with it the shortest ring, of the endless text with this ring and this tail."""
    # A ring of equal texts comes again in itself put twice, ahead of its own end.
    ring = ring[:(ring + ring).find(ring, 1)]
    at = 0
    while at < len(tail) and tail[at] == ring[at % len(ring)]:
        at += 1
    turned = at % len(ring)
    return ring[turned:] + ring[:turned], tail[at:]


def far_end(endless, length):
    """The text of the last letters, however many they are."""
    missing = length - len(endless.tail)
    if missing <= 0:
        return endless.tail[-missing:]
    rings = endless.ring * (missing // len(endless.ring) + 1)
    return rings[len(rings) - missing:] + endless.tail
