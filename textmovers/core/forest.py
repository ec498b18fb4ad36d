"""Moves whose rests are in the core from some length on, each under one number.

The moves of the core have their places as numbers. Each other one is numbered
behind its rests behind the single letters, so equal moves have one number.
"""

from textmovers.base.letters import MAX_RESTS
from textmovers.base.rows import led_from, undone_row
from textmovers.core.graphs import lasting_places, pair_rows, part_rows, resolved, shifted_rows
from textmovers.errors import TooMany
from textmovers.move.tables import alike_groups, rows_from, undone_rows


class Forest:
    """A growing table of rows, those of the core first, no two of them alike."""

    def __init__(self, core_rows):
        self._many = len(core_rows)
        self._table = list(core_rows)
        self._depths = [0] * len(core_rows)
        self._numbers = {row: number for number, row in enumerate(core_rows)}
        self._products = {}
        self._undone = {}
        self._few = {}

    def size(self):
        """How many moves the core has: just these have lesser numbers."""
        return self._many

    def row(self, number):
        """The turn of the move, and the numbers of its rests behind the letters."""
        return self._table[number]

    def depth(self, number):
        """The least length such that behind all texts of it the rests are in the core."""
        return self._depths[number]

    def led(self, number, text):
        """The text to which the move leads a text, and the number of its rest behind it."""
        return led_from(self._table, number, text)

    def rests_table(self, number):
        """The rows of all rests of the move."""
        return rows_from(self._table, number)

    def number_of(self, turn, nexts):
        """The number of the move with this turn and these rests behind the letters."""
        row = (turn, nexts)
        if row not in self._numbers:
            self._numbers[row] = len(self._table)
            self._table.append(row)
            self._depths.append(1 + max([int(self._depths[behind]) for behind in nexts]))
        return self._numbers[row]

    def core_places(self, rows):
        """For each row of a table the place of its move in the core, or None if it is not there."""
        table = [*self._table[:self._many], *shifted_rows(rows, self._many)]
        groups = alike_groups(table, len(table))[self._many:]
        return [group if group < self._many else None for group in groups]

    def planted(self, rows):
        """For each row of a table the number of its move, or None if a loop leads past the core."""
        numbers = self.core_places(rows)
        needs = []
        for place, (_, nexts) in enumerate(rows):
            outside = [behind for behind in nexts if numbers[behind] is None]
            needs.append(outside if numbers[place] is None else [])
        for place in resolved(needs):
            if numbers[place] is None:
                turn, nexts = rows[place]
                numbers[place] = self.number_of(turn, tuple([numbers[behind] for behind in nexts]))
        return numbers

    def product(self, one, other, most=None):
        """The number of the product; TooMany if it is seen to have more rows outside of the core than most."""
        if not self._products:
            self.learn_products()
        met = {}
        waiting = [(one, other)]
        while waiting:
            pair = waiting[-1]
            if pair not in self._products:
                behind = self.pairs_behind(pair)
                missing = [next_pair for next_pair in behind if next_pair not in self._products]
                if missing:
                    waiting.extend(missing)
                    continue
                self.keep_product(pair, behind)
            waiting.pop()
            if self._products[pair] >= self._many:
                met[self._products[pair]] = True
            if most is not None and len(met) > most:
                raise TooMany(most)
        return self._products[(one, other)]

    def learn_products(self):
        """Keeps those products of two moves of the core that stand behind loops: these lead to no others."""
        core_rows = self._table[:self._many]
        pairs = pair_rows(core_rows, core_rows)
        places = lasting_places(pairs)
        for place, number in zip(places, self.core_places(part_rows(pairs, places))):
            self._products[divmod(place, self._many)] = number

    def pairs_behind(self, pair):
        """The pairs of moves whose products are the rests of the product behind the single letters."""
        one, other = pair
        # The idle move has the number 0; behind it nothing need be looked at.
        if one == 0 or other == 0:
            return []
        turn, nexts = self._table[one]
        _, other_nexts = self._table[other]
        return [(behind, other_nexts[come]) for behind, come in zip(nexts, turn)]

    def keep_product(self, pair, behind):
        """Keeps the product of a pair whose products behind the single letters are known."""
        one, other = pair
        if one == 0 or other == 0:
            self._products[pair] = one + other
            return
        other_turn = self._table[other][0]
        turn = tuple([other_turn[come] for come in self._table[one][0]])
        self._products[pair] = self.number_of(turn, tuple([self._products[next_pair] for next_pair in behind]))

    def undone_number(self, number):
        """The number of the undone move."""
        if not self._undone:
            for place, back in enumerate(self.core_places(undone_rows(self._table[:self._many]))):
                self._undone[place] = back
        rests = self.outside(number, None)
        # Rests have lesser numbers than the moves whose rests they are.
        for one in sorted([int(found) for found in rests]):
            if one not in self._undone:
                turn, nexts = self._table[one]
                back, backs = undone_row(turn, [self._undone[behind] for behind in nexts])
                self._undone[one] = self.number_of(back, backs)
        return self._undone[number]

    def outside(self, number, most):
        """The numbers of the rests outside of the core as they are met; TooMany if there are more than most."""
        order = [] if number < self._many else [number]
        met = {one: True for one in order}
        at = 0
        while at < len(order):
            _, nexts = self._table[order[at]]
            at += 1
            for behind in nexts:
                if behind >= self._many and behind not in met:
                    met[behind] = True
                    order.append(behind)
            if most is not None and len(order) > most:
                raise TooMany(most)
        return order

    def has_few_rests(self, number):
        """Whether the move has at most sixty rests, those in the core counted."""
        if number not in self._few:
            self._few[number] = len(self.first_rests(number)) <= MAX_RESTS
        return self._few[number]

    def first_rests(self, number):
        """The numbers of some rests of the move: of all, or of more than sixty."""
        order = [number]
        met = {number: True}
        at = 0
        while at < len(order) <= MAX_RESTS:
            _, nexts = self._table[order[at]]
            at += 1
            for behind in nexts:
                if behind not in met:
                    met[behind] = True
                    order.append(behind)
        return order
