"""The core of a quiet machine, and moves whose rests are in it from some length on, each under one number.

Each move outside of the core is numbered behind its rests behind the single letters.
"""

from heapq import heappop, heappush

from textmovers.base.rows import led_from, undone_row
from textmovers.core.graphs import resolved, shifted_rows
from textmovers.errors import TooMany
from textmovers.move.gathering import Gathering
from textmovers.move.tables import alike_groups, idle_rows, undone_rows


class Forest(Gathering):
    """A growing table of rows, no two of them alike. The core is told when it is known."""

    def __init__(self, letters):
        Gathering.__init__(self, idle_rows(letters))
        self._inside = {}
        self._places = {}
        self._depths = []
        self._undone = {}

    def close(self, numbers):
        """Tells the numbers of the moves of the core."""
        self._inside = {number: True for number in numbers}

    def has_inside(self, number):
        """Whether the move is in the core."""
        return number in self._inside

    def inside(self):
        """The numbers of the moves of the core, in any order."""
        return list(self._inside)

    def places(self):
        """The numbers of the moves of the core, each with its place in the order of the moves."""
        if not self._places:
            queue = []
            for number in self._inside:
                form = self.form(number)
                heappush(queue, (len(form), form, number))
            while queue:
                _, _, number = heappop(queue)
                self._places[number] = len(self._places)
        return dict(self._places)

    def core_rows(self):
        """For each move of the core its turn, and the places of its rests in the core."""
        places = self.places()
        rows = []
        for number in places:
            turn, nexts = self._table[number]
            rows.append((turn, tuple([places[behind] for behind in nexts])))
        return rows

    def row(self, number):
        """The turn of the move, and the numbers of its rests behind the letters."""
        return self._table[number]

    def depth(self, number):
        """The least length such that behind all texts of it the rests are in the core."""
        depths = self._depths
        # Rests outside of the core have lesser numbers than the moves whose rests they are.
        while len(depths) <= number:
            most = 0
            if len(depths) not in self._inside:
                for behind in self._table[len(depths)][1]:
                    if depths[behind] >= most:
                        most = depths[behind] + 1
            depths.append(most)
        return depths[number]

    def led(self, number, text):
        """The text to which the move leads a text, and the number of its rest behind it."""
        return led_from(self._table, number, text)

    def core_numbers(self, rows):
        """For each row of a table the number of its move, or None if it is not in the core."""
        core = list(self.places())
        table = [*self.core_rows(), *shifted_rows(rows, len(core))]
        groups = alike_groups(table, len(table))[len(core):]
        return [core[group] if group < len(core) else None for group in groups]

    def grafted(self, rows):
        """For each row of a table the number of its move, or None if a loop leads past the core."""
        numbers = self.core_numbers(rows)
        needs = []
        for place, (_, nexts) in enumerate(rows):
            outside = [behind for behind in nexts if numbers[behind] is None]
            needs.append(outside if numbers[place] is None else [])
        for place in resolved(needs):
            if numbers[place] is None:
                turn, nexts = rows[place]
                numbers[place] = self.number_of(turn, tuple([numbers[behind] for behind in nexts]))
        return numbers

    def limited_product(self, one, other, most):
        """The number of the product; TooMany if it is seen to have more rows outside of the core than most."""
        if one == 0 or other == 0:
            return one + other
        met = {}
        waiting = [(one, other)]
        while waiting:
            missing = self.missing_behind(waiting[-1])
            if missing:
                waiting.extend(missing)
                continue
            number = self._products[waiting.pop()]
            if most is not None and number not in self._inside:
                met[number] = True
                if len(met) > most:
                    raise TooMany(most)
        return self._products[(one, other)]

    def deepest(self, ones, others):
        """The least length behind which all products of one of these moves and one of those are in the core."""
        most = 0
        for one in ones:
            for other in others:
                depth = self.depth(self.limited_product(one, other, None))
                if depth > most:
                    most = depth
        return most

    def missing_behind(self, pair):
        """The pairs behind the single letters whose products are not known; numbers the product if all are."""
        products = self._products
        if pair in products:
            return []
        one, other = pair
        if one in self._inside and other in self._inside:
            # Only these can stand in circles, and they lead to no others.
            self.add_products([pair])
            return []
        turn, nexts = self._table[one]
        other_turn, other_nexts = self._table[other]
        numbers = []
        missing = []
        for come, left in zip(turn, nexts):
            behind = (left, other_nexts[come])
            if behind in products:
                numbers.append(products[behind])
            elif left == 0 or behind[1] == 0:
                numbers.append(left + behind[1])
            else:
                missing.append(behind)
        if not missing:
            products[pair] = self.number_of(tuple([other_turn[come] for come in turn]), tuple(numbers))
        return missing

    def undone_number(self, number):
        """The number of the undone move."""
        if not self._undone:
            backs = self.planted(undone_rows(self.core_rows()))
            for one, back in zip(list(self.places()), backs):
                self._undone[one] = back
        rests = self.outside(number, None)
        # Rests have lesser numbers than the moves whose rests they are.
        for one in sorted([int(found) for found in rests]):
            if one not in self._undone:
                turn, nexts = self._table[one]
                back, backs = undone_row(turn, [self._undone[behind] for behind in nexts])
                self._undone[one] = self.number_of(back, backs)
        return self._undone[number]

    def outside(self, number, most):
        """The numbers of the rests outside of the core as they are met; TooMany if there are more than most."""
        order = [] if number in self._inside else [number]
        met = {one: True for one in order}
        at = 0
        while at < len(order):
            _, nexts = self._table[order[at]]
            at += 1
            for behind in nexts:
                if behind not in self._inside and behind not in met:
                    met[behind] = True
                    order.append(behind)
            if most is not None and len(order) > most:
                raise TooMany(most)
        return order
