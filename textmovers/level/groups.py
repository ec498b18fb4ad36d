"""Groups of turns of so many points: how many there are, and which turns are among them.

A turn is a tuple as that of letters, only longer. The turns that leave the points
below some point are kept by one for each point to which they lead it.
"""

from textmovers.base.rows import undone_turn


class TurnGroup:
    """The turns that come of some turns, done one after the other in any order."""

    def __init__(self, points, turns):
        self._points = points
        self._makers = [[] for _ in range(points)]
        still = tuple(range(points))
        # For each point, which turn leads back to it what others lead it to.
        self._backs = [{point: still} for point in range(points)]
        waiting = [(0, turn) for turn in turns]
        while waiting:
            point, turn = waiting.pop()
            if not self.has_from(point, turn):
                waiting.extend(self.with_maker(point, turn))

    def order(self):
        """How many turns there are."""
        many = 1
        for backs in self._backs:
            many = many * len(backs)
        return many

    def has(self, turn):
        """Whether the turn is one of the group."""
        return self.has_from(0, turn)

    def has_from(self, first, turn):
        """Whether a turn that leaves all points below the first one is known to be one of the group."""
        for point in range(first, self._points):
            backs = self._backs[point]
            if turn[point] not in backs:
                return False
            if turn[point] != point:
                turn = joined_turn(turn, backs[turn[point]])
        return True

    def with_maker(self, point, maker):
        """Makes turns of a point with one maker more; returns what must be known of the points above it."""
        known = list(self._backs[point])
        self._makers[point].append(maker)
        waiting = [(one, maker) for one in known]
        left = []
        while waiting:
            one, other = waiting.pop()
            turn = joined_turn(undone_turn(self._backs[point][one]), other)
            if turn[point] in self._backs[point]:
                left.append((point + 1, joined_turn(turn, self._backs[point][turn[point]])))
            else:
                self._backs[point][turn[point]] = undone_turn(turn)
                waiting.extend([(turn[point], again) for again in self._makers[point]])
        return left


def joined_turn(turn, other):
    """First the one turn, then the other one."""
    return tuple([other[come] for come in turn])
