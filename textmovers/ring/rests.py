"""Ring-rests of a move, kept in tables of unlike rows with all their rests.

A ring-rest is told by a spot: the number of a table, and the place of its row there.
What is left behind a whole ring is a product of rests, told by their places in one table;
products that are reached from one another are looked at together, and make a new table.
"""

from textmovers.base.letters import MAX_RESTS
from textmovers.errors import TooMany
from textmovers.grow.ranks import still_place
from textmovers.move.tables import alike_groups, first_rows, rows_from, undone_rows
from textmovers.ring.trials import Trials, led_letters, short_trial


class RingRests:
    """The ring-rests of a move, as far as they have been looked at."""

    def __init__(self, form):
        self._tables = [form]
        self._stills = [still_place(form)]
        self._backs = {}
        self._behind = {}
        self._products = {}
        # The spots at which the least forms of products stand.
        self._spots = {form: (0, 0)}
        # The numbers of spots, the spot of each number, and the numbers of those that do the same to a short text.
        self._numbers = {}
        self._numbered = []
        self._alike = {}
        self.number((0, 0))

    def row_at(self, spot):
        """The turn and the nexts of a ring-rest."""
        table, place = spot
        return self._tables[table][place]

    def table_at(self, spot):
        """The table in which a ring-rest stands, and the place of the idle row in it, or None."""
        return self._tables[spot[0]], self._stills[spot[0]]

    def back_table_at(self, spot):
        """The rows that lead back what those of the table do, and the place of the idle row, or None."""
        table = spot[0]
        if table not in self._backs:
            self._backs[table] = undone_rows(self._tables[table])
        return self._backs[table], self._stills[table]

    def ring_at(self, spot, letter):
        """The letters to which a ring-rest leads a letter, done again and again, this letter first."""
        return letter_ring(self.row_at(spot)[0], letter)

    def form(self, spot):
        """The least form of a ring-rest."""
        return rows_from(self._tables[spot[0]], spot[1])

    def number(self, spot):
        """The number of a ring-rest among those that were asked for, equal ones having one."""
        if spot not in self._numbers:
            rows = self._tables[spot[0]]
            shown = led_letters(rows, spot[1], short_trial(len(rows[0][0])))
            alike = self._alike.setdefault(shown, [])
            equal = [number for number in alike if self.are_equal(self._numbered[number], spot)]
            if not equal:
                equal = [len(self._numbered)]
                alike.append(len(self._numbered))
                self._numbered.append(spot)
            self._numbers[spot] = equal[0]
        return self._numbers[spot]

    def are_equal(self, spot, other):
        """Whether two ring-rests at unlike spots are equal."""
        # The rows of one table are unlike.
        return spot[0] != other[0] and self.form(spot) == self.form(other)

    def behind(self, spot, letter):
        """The spot of the ring-rest behind a letter, or None if it has more than sixty rests."""
        step = (*spot, letter)
        if step not in self._behind:
            self._behind[step] = self.found_behind(spot, letter)
        return self._behind[step]

    def told_behind(self, spot, letter):
        """The same; TooMany if it has more than sixty rests."""
        behind = self.behind(spot, letter)
        if behind is None:
            raise TooMany(MAX_RESTS)
        return behind

    def found_behind(self, spot, letter):
        """The spot of the ring-rest behind a letter that has not been looked at."""
        table, place = spot
        still = self._stills[table]
        turn, nexts = self._tables[table][place]
        left = tuple([nexts[one] for one in letter_ring(turn, letter) if nexts[one] != still])
        if not left:
            return table, still
        if len(left) == 1:
            return table, left[0]
        if (table, left) not in self._products:
            self.add_products(table, left)
        return self._products[(table, left)]

    def add_products(self, table, first):
        """Looks at a product of rests, and at all that are reached from it."""
        self._products[(table, first)] = None
        order, told = met_products(self._tables[table], self._stills[table], first)
        if told is None:
            return
        groups = alike_groups(told, MAX_RESTS)
        if groups is None:
            return
        form = tuple(first_rows(told, groups))
        if form not in self._spots:
            self._spots[form] = (len(self._tables), 0)
            self._stills.append(still_place(form))
            self._tables.append(form)
        other, place = self._spots[form]
        # Where the rows of the form stand in a table that is known.
        places = met_places(self._tables[other], place)
        for product, group in zip(order, groups):
            self._products[(table, product)] = (other, places[group])


def letter_ring(turn, letter):
    """The letters to which a turn leads a letter, done again and again, this letter first."""
    ring = [letter]
    while turn[ring[-1]] != letter:
        ring.append(turn[ring[-1]])
    return ring


def met_places(rows, first):
    """The places of the rows that are reached from one row, as they are met from it on."""
    met = {first: True}
    order = [first]
    at = 0
    while at < len(order):
        _, nexts = rows[order[at]]
        at += 1
        for behind in nexts:
            if behind not in met:
                met[behind] = True
                order.append(behind)
    return order


def met_products(rows, still, first):
    """The products that are reached from one, and a row for each, or None if they are seen to be too many."""
    numbers = {first: 0}
    order = [first]
    told = []
    trials = Trials(rows)
    letters = list(range(len(rows[0][0])))
    while len(told) < len(order):
        # There can be far too many products to look at each.
        if len(order) > MAX_RESTS and trials.are_too_many(order, len(told)):
            return order, None
        come = []
        behind = []
        for letter in letters:
            left = []
            for place in order[len(told)]:
                turn, nexts = rows[place]
                if nexts[letter] != still:
                    left.append(nexts[letter])
                letter = turn[letter]
            product = tuple(left)
            if product not in numbers:
                numbers[product] = len(order)
                order.append(product)
            come.append(letter)
            behind.append(numbers[product])
        told.append((tuple(come), tuple(behind)))
    return order, told
