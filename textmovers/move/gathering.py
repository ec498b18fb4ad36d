"""Unlike moves under numbers: a growing table of rows, whose nexts are numbers of rows.

A move whose rests behind the single letters have numbers is known by its turn and by
these. Only moves behind circles, which come back to themselves or to others that do,
must be looked at all together.

What is to be numbered is told by a list of pairs (turn, behind), where behind has for
each letter the number of the rest, or -1 - k for the one that stands at the place k.
"""

from textmovers.base.letters import MAX_RESTS
from textmovers.move.tables import alike_groups, first_rows, idle_rows, least_of_met, product_rows, rows_from

# More rows than so many are rather looked at one power after the other.
MAX_GATHERED = 600


class Gathering:
    """A table of rows, no two of them alike, the idle one first."""

    def __init__(self, rows):
        # The first rows are unlike, and all rows behind circles are among them.
        self._table = list(rows)
        self._numbers = {row: number for number, row in enumerate(self._table)}
        self._circled = {number: True for number in range(len(self._table))}
        self._products = {}

    def size(self):
        """How many moves have numbers."""
        return len(self._table)

    def is_circled(self, number):
        """Whether a move stands behind a circle."""
        return number in self._circled

    def form(self, number):
        """The least form of a move."""
        return rows_from(self._table, number)

    def number_of(self, turn, nexts):
        """The number of the move with this turn and these rests behind the letters."""
        row = (turn, nexts)
        if row not in self._numbers:
            self._numbers[row] = len(self._table)
            self._table.append(row)
        return self._numbers[row]

    def planted(self, rows):
        """The numbers of the moves of all rows of a table."""
        return self.numbered([(turn, [-1 - place for place in nexts]) for turn, nexts in rows])

    def product(self, one, other):
        """The number of the product."""
        if one == 0 or other == 0:
            return one + other
        if (one, other) not in self._products:
            self.add_products([(one, other)])
        return self._products[(one, other)]

    def all_products(self, pairs):
        """The numbers of the products of these pairs, none of which has the idle move."""
        self.add_products([pair for pair in pairs if pair not in self._products])
        return {pair: self._products[pair] for pair in pairs}

    def learn(self, pair, number):
        """Keeps the number of a product that is known otherwise."""
        self._products.setdefault(pair, number)

    def add_products(self, pairs):
        """Numbers the products of these pairs, none of which is known, or has the idle move."""
        table = self._table
        products = self._products
        places = {pair: place for place, pair in enumerate(pairs)}
        order = list(pairs)
        told = []
        while len(told) < len(order):
            one, other = order[len(told)]
            turn, nexts = table[one]
            other_turn, other_nexts = table[other]
            behind = []
            for come, left in zip(turn, nexts):
                right = other_nexts[come]
                pair = (left, right)
                if left == 0 or right == 0:
                    behind.append(left + right)
                elif pair in products:
                    behind.append(products[pair])
                else:
                    if pair not in places:
                        places[pair] = len(order)
                        order.append(pair)
                    behind.append(-1 - places[pair])
            told.append((tuple([other_turn[come] for come in turn]), behind))
        for pair, number in zip(order, self.numbered(told)):
            products[pair] = number

    def numbered(self, told):
        """The numbers of these moves."""
        numbers = [None for _ in told]
        # What is met later stands behind what is met first, so most is known from the last one on.
        left = self.number_known(told, numbers, list(range(len(told)))[::-1])
        if left:
            circled = circled_places(told, numbers, left)
            self.number_circled(told, numbers, circled)
            if len(circled) < len(left):
                self.number_known(told, numbers, [place for place in left if numbers[place] is None])
        return numbers

    def number_known(self, told, numbers, places):
        """Numbers the moves at these places whose rests have numbers, again and again; returns the other places."""
        many = len(places) + 1
        while len(places) < many:
            many = len(places)
            left = []
            for place in places:
                turn, behind = told[place]
                nexts = tuple([number if number >= 0 else numbers[-1 - number] for number in behind])
                if None in nexts:
                    left.append(place)
                else:
                    numbers[place] = self.number_of(turn, nexts)
            places = left
        return places

    def number_circled(self, told, numbers, places):
        """Numbers the moves at these places, which stand behind circles."""
        outer = [next_number(numbers, number) for place in places for number in told[place][1]]
        outer = [number for number in outer if number is not None and number not in self._circled]
        base = self.with_rests([*self._circled, *outer]) if outer else list(self._circled)
        many = len(base)
        rows = joined_table(self._table, base, told, numbers, places)
        groups = alike_groups(rows, len(rows))
        # The first groups are those of the base, one for each row.
        news = []
        for turn, nexts in first_rows(rows, groups)[many:]:
            news.append((turn, [base[group] if group < many else many - 1 - group for group in nexts]))
        found = [*base, *self.number_new(news)]
        for place, group in zip(places, groups[many:]):
            numbers[place] = found[group]
        self._circled = {number: True for number in found}

    def number_new(self, news):
        """The numbers of unlike moves, which are new if they come back to themselves, or to others that do."""
        found = [None for _ in news]
        circled = self.number_known(news, found, list(range(len(news))))
        for at, place in enumerate(circled):
            found[place] = len(self._table) + at
        for place in circled:
            turn, behind = news[place]
            self.number_of(turn, tuple([next_number(found, number) for number in behind]))
        return found

    def with_rests(self, numbers):
        """These numbers, and those of all rests of these moves, each once."""
        met = {number: True for number in numbers}
        order = list(met)
        at = 0
        while at < len(order):
            _, nexts = self._table[order[at]]
            at += 1
            for behind in nexts:
                if behind not in met:
                    met[behind] = True
                    order.append(behind)
        return order

    def has_few_rests(self, number):
        """Whether the move has at most sixty rests."""
        return len(self.first_rests(number)) <= MAX_RESTS

    def first_rests(self, number):
        """The numbers of some rests of the move: of all, or of more than sixty."""
        order = [number]
        met = {number: True}
        at = 0
        while at < len(order) <= MAX_RESTS:
            _, nexts = self._table[order[at]]
            at += 1
            for behind in nexts:
                if behind not in met:
                    met[behind] = True
                    order.append(behind)
        return order


def next_number(numbers, number):
    """The number that is told for a rest, or that of the place that is told, None if it has none yet."""
    return number if number >= 0 else numbers[-1 - number]


def joined_table(table, base, told, numbers, places):
    """The rows of a table with these numbers, and those that are told for the places, as a table of their own."""
    at_number = {number: at for at, number in enumerate(base)}
    at_place = {place: len(base) + at for at, place in enumerate(places)}
    rows = []
    for number in base:
        turn, nexts = table[number]
        rows.append((turn, [at_number[behind] for behind in nexts]))
    for place in places:
        turn, behind = told[place]
        nexts = []
        for number in behind:
            known = next_number(numbers, number)
            nexts.append(at_place[-1 - number] if known is None else at_number[known])
        rows.append((turn, nexts))
    return rows


def circled_places(told, numbers, places):
    """Those of these places, none of which has a number, that stand behind circles of them."""
    inner = {}
    ahead = {place: 0 for place in places}
    for place in places:
        _, behind = told[place]
        inner[place] = [-1 - number for number in behind if next_number(numbers, number) is None]
        for other in inner[place]:
            ahead[other] += 1
    waiting = [place for place in places if ahead[place] == 0]
    # What nothing leads to is behind no circle, and so on.
    while waiting:
        place = waiting.pop()
        for other in inner[place]:
            ahead[other] -= 1
            if ahead[other] == 0:
                waiting.append(other)
    return [place for place in places if ahead[place] > 0]


def power_form(letters, rows, number):
    """The least form of so many times a move, or None if one of the powers up to it has too many rows."""
    gathering = Gathering(idle_rows(letters))
    once = gathering.planted(rows)[0]
    power = 0
    for done in range(number):
        power = gathering.product(power, once)
        if not gathering.has_few_rests(power):
            return None
        if gathering.size() > MAX_GATHERED:
            return plain_power_form(gathering.form(power), rows, number - done - 1)
    return gathering.form(power)


def plain_power_form(form, rows, number):
    """The least form of a move and then so many times another one, or None if there are too many rows on the way."""
    for _ in range(number):
        form = least_of_met(product_rows(form, rows), MAX_RESTS)
        if form is None:
            return None
    return form
