"""Groups of level turns of a rotating machine, sifted by where they rotate first.

A level turn of texts of p letters, p a prime, rotates behind each shorter text. Turns
that leave what stands ahead of a text add up their rotations behind it: so a group has
one turn at most for each text behind which its turns can rotate first, and each of its
turns is just one product of these, each done fewer than p times.
"""

from textmovers.base.rows import undone_turn
from textmovers.level.groups import joined_turn


class Sieve:
    """The group of the turns that have been put into it."""

    def __init__(self, letters, length):
        self._letters = letters
        self._sizes = []
        size = 1
        for _ in range(length):
            self._sizes.append(size)
            size = size * letters
        self._still = tuple(range(size))
        self._firsts = {}

    def size(self):
        """How many turns there are."""
        many = 1
        for _ in self._firsts:
            many = many * self._letters
        return many

    def turns(self):
        """Turns that make all others."""
        return [self._firsts[place] for place in self._firsts]

    def take_in(self, turn):
        """Puts a turn into the group, if it is not there; whether it was not."""
        grown = False
        waiting = [turn]
        while waiting:
            rest, place, times = self.sifted(waiting.pop())
            if place is None:
                continue
            grown = True
            if times == 2:
                rest = joined_turn(rest, rest)
            waiting.append(powered_turn(rest, self._letters))
            waiting.extend([commutator(rest, other) for other in self.turns()])
            self._firsts[place] = rest
        return grown

    def sifted(self, turn):
        """What is left of a turn without those of the group, and where and by how much it rotates first."""
        place, times = self.first_rotation(turn)
        while place is not None and place in self._firsts:
            for _ in range(self._letters - times):
                turn = joined_turn(turn, self._firsts[place])
            place, times = self.first_rotation(turn)
        return turn, place, times

    def first_rotation(self, turn):
        """The place of the first text behind which the turn rotates, and by how much; None, 0 for a still turn."""
        if turn == self._still:
            return None, 0
        for size in self._sizes[::-1]:
            for at, come in enumerate(turn[::size]):
                if come // size != at:
                    return (size, at // self._letters), (come // size - at) % self._letters
        return None, 0


def commutator(one, other):
    """What one turn does, if it is done behind both undone ones and ahead of the other one."""
    back = joined_turn(undone_turn(one), undone_turn(other))
    return joined_turn(joined_turn(back, one), other)


def powered_turn(turn, number):
    """So many times the turn."""
    power = turn
    for _ in range(number - 1):
        power = joined_turn(power, turn)
    return power
