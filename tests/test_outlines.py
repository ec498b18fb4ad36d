"""Outlines of moves of quiet machines."""

import itertools
import random

from support import (
    BIG, FLIP, FOLDED, GRAY, HANOI, LAMP, LONG, MORE, ODD, SIXTY, STAY, SWAP, VALUES, WIDE, Case, model_led, model_table,
    quiet_machines, random_texts, rest_forms, short_texts, wide_word,
)
from textmovers.base.letters import index_of, is_text, is_turn
from textmovers.core.cores import core, core_rows, settled
from textmovers.core.outlines import (
    MAX_ROWS, is_outline, joined_outline, outline, outline_depth, outline_led, outline_move, outline_of, outline_power,
    outline_product, outline_rest, outline_undone,
)
from textmovers.errors import (
    InvalidMachine, InvalidMove, InvalidNumber, InvalidOperation, InvalidText, InvalidWord, Loud, TooMany,
)
from textmovers.machine.known import counter
from textmovers.machine.machines import Machine
from textmovers.move.moves import Move, first_turned, idle, move_of
from textmovers.move.tables import least_rows, product_rows, undone_rows
from textmovers.move.words import is_word, led, undone_word

KNOWN = [ODD, GRAY, HANOI, FOLDED, FLIP, counter(3), counter(4)]


def some_machines():
    """Quiet machines whose cores can be told."""
    found = list(KNOWN)
    for machine in quiet_machines(15, 25, sizes=(3, 4)):
        try:
            if len(core(machine)) <= 15:
                found.append(machine)
        except TooMany:
            pass
    return found


MACHINES = some_machines()
KEPT = {}


def kept_core(machine):
    """The moves of the core, found once."""
    if str(machine) not in KEPT:
        KEPT[str(machine)] = core(machine)
    return KEPT[str(machine)]
STILL = (-1, ())


def words(seed, machine, many, most):
    """Words by chance."""
    chance = random.Random(seed)
    return [
        tuple((chance.choice(machine.states), chance.choice((1, -1, 2, -3, 1))) for _ in range(chance.randint(0, most)))
        for _ in range(many)
    ]


def model_outline(machine, rows):
    """What the document says of the outline of a least form, or None if a row outside of the core leads to itself."""
    forms = [move.rows for move in kept_core(machine)]
    rests = rest_forms(rows)
    place = {at: forms.index(form) for at, form in enumerate(rests) if form in forms}
    if 0 in place:
        return -1 - place[0], ()
    order = [0]
    for at in order:
        order.extend(dict.fromkeys(one for one in rows[at][1] if one not in place and one not in order))
    left = {at: {one for one in rows[at][1] if one not in place} for at in order}
    while left:
        free = [at for at in left if not left[at] & set(left)]
        if not free:
            return None
        left = {at: left[at] for at in left if at not in free}
    marks = {at: mark for mark, at in enumerate(order)}
    return 0, tuple(
        (rows[at][0], tuple(-1 - place[one] if one in place else marks[one] for one in rows[at][1])) for at in order
    )


def least(rows):
    return least_rows(rows, 10 ** 9)


def outline_form(machine, value):
    """The least form of the move that the marks of an outline tell."""
    mark, rows = value
    moves = kept_core(machine)
    table = [*rows, *core_rows(machine)]
    many = len(rows)
    told = [(turn, tuple(one if one >= 0 else many - 1 - one for one in nexts)) for turn, nexts in rows]
    told += [(turn, tuple(many + one for one in nexts)) for turn, nexts in table[many:]]
    if mark < 0:
        return moves[-1 - mark].rows
    return least(tuple(told))


def is_model_outline(machine, value):
    """Whether the value has the form of an outline, and is the very one of the move that it tells."""
    many = len(kept_core(machine))
    if type(value) is not tuple or len(value) != 2 or type(value[0]) is not int or type(value[1]) is not tuple:
        return False
    mark, rows = value
    for row in rows:
        if type(row) is not tuple or len(row) != 2 or not is_turn(machine.letters, row[0]) or type(row[1]) is not tuple:
            return False
        if len(row[1]) != machine.letters or any(type(one) is not int or not -many <= one < len(rows) for one in row[1]):
            return False
    if not (-many <= mark < 0 if rows == () else mark == 0) or len(rows) > 2000:
        return False
    return model_outline(machine, outline_form(machine, value)) == value


def chain(many, machine=ODD):
    """An outline of so many rows, each behind the one before: it turns one letter behind so many."""
    letters = machine.letters
    stay = tuple(range(letters))
    rows = [(stay, (at + 1, *[-1] * (letters - 1))) for at in range(many - 1)]
    return 0, (*rows, ((1, 0, *stay[2:]), (-1,) * letters))


class Words(Case):

    def test_against_the_least_forms(self):
        sizes = set()
        for machine in MACHINES:
            for word in words(1, machine, 14, 8):
                told = outline(machine, word)
                self.assertEqual(told, model_outline(machine, model_table(machine, word)))
                self.assertIs(is_outline(machine, told), True)
                sizes.add(len(told[1]))
        self.assertGreater(len(sizes), 8)

    def test_equal_exactly_if_the_moves_are(self):
        for machine in MACHINES:
            found = {}
            for word in [*words(2, machine, 25, 3), (), (("e", 1),) if "e" in machine else ()]:
                found.setdefault(model_table(machine, word), set()).add(outline(machine, word))
            self.assertTrue(all(len(told) == 1 for told in found.values()))
            self.assertEqual(len(set.union(*found.values())), len(found))

    def test_great_words(self):
        for seed in range(5):
            word = wide_word(seed, 18, "bcd")
            rows = model_table(WIDE, word)
            told = outline(WIDE, word)
            self.assertEqual(told, model_outline(WIDE, rows))
            self.assertEqual(outline_depth(WIDE, told), settled(WIDE, word))
        word = wide_word(972, 150)
        told = outline(WIDE, word)
        self.assertEqual(outline_depth(WIDE, told), settled(WIDE, word))
        for text in random_texts(1, 4, (1, 7, 20, 200)):
            self.assertEqual(outline_led(WIDE, told, text), led(WIDE, word, text))

    def test_two_thousand_rows_and_more(self):
        self.assertEqual(MAX_ROWS, 2000)
        self.assertEqual(len(outline(WIDE, wide_word(972, 157))[1]), 2000)
        self.refused_with(TooMany(2000), outline, WIDE, wide_word(972, 156))
        self.refused_with(TooMany(2000), outline, WIDE, wide_word(972, 158))
        # There can be more on the way.
        great = wide_word(3, 100)
        self.assertEqual(outline(WIDE, (*great, *undone_word(WIDE, great))), STILL)

    def test_steps_of_the_core(self):
        for machine in MACHINES:
            for place, move in enumerate(core(machine)):
                self.assertEqual(outline_of(machine, move), (-1 - place, ()))
            self.assertEqual(outline(machine, ()), STILL)


class Moves(Case):

    def test_moves_with_outlines(self):
        for machine in MACHINES:
            for word in words(3, machine, 10, 6):
                rows = model_table(machine, word)
                if len(rows) <= 60:
                    told = outline_of(machine, Move.of(machine.letters, rows))
                    self.assertEqual(told, outline(machine, word))
                    self.assertTrue(outline_move(machine, told) == Move.of(machine.letters, rows))

    def test_moves_of_no_words(self):
        for machine in MACHINES:
            for turn in ((1, 0, 2, 3)[:machine.letters], tuple(range(machine.letters))[::-1]):
                move = first_turned(machine.letters, turn)
                told = outline_of(machine, move)
                self.assertEqual(told, model_outline(machine, move.rows))
                self.assertTrue(outline_move(machine, told) == move)

    def test_moves_without_outlines(self):
        for machine, move in ((ODD, move_of(LAMP, "a")), (GRAY, move_of(ODD, "a")), (ODD, move_of(GRAY, "b")),
                              (FOLDED, move_of(ODD, "a")), (HANOI, move_of(counter(3), "a")), (FLIP, move_of(ODD, "a"))):
            self.assertIsNone(outline_of(machine, move))
            self.assertIsNone(outline_of(machine, first_turned(machine.letters, move.first_turn) * move))
        far = Move(2, (STAY, (1, 1)), (STAY, (2, 2)), (SWAP, (3, 0)), (STAY, (3, 3)))
        for machine in (ODD, GRAY, FOLDED):
            self.assertIsNone(outline_of(machine, far))

    def test_against_the_model(self):
        chance = random.Random(4)
        met = {True: 0, False: 0}
        for machine in MACHINES:
            for _ in range(12):
                rows = [(tuple(chance.sample(range(machine.letters), machine.letters)), tuple(
                    chance.randrange(4) for _ in range(machine.letters))) for _ in range(3)]
                rows.append((tuple(range(machine.letters)), (3,) * machine.letters))
                move = Move(machine.letters, *rows)
                told = outline_of(machine, move)
                self.assertEqual(told, model_outline(machine, move.rows))
                met[told is None] += 1
        self.assertGreater(min(met.values()), 20)

    def test_outlines_and_their_moves(self):
        for machine in MACHINES:
            for word in words(5, machine, 6, 8):
                told = outline(machine, word)
                rows = model_table(machine, word)
                if len(rows) > 60:
                    self.refused_with(TooMany(60), outline_move, machine, told)
                else:
                    self.assertEqual(outline_move(machine, told).rows, rows)

    def test_moves_of_sixty_rests_and_of_more(self):
        # The rests of a chain are its rows and the idle move.
        self.assertEqual(len(outline_move(ODD, chain(59))), 60)
        self.refused_with(TooMany(60), outline_move, ODD, chain(60))
        self.refused_with(TooMany(60), outline_move, ODD, chain(2000))
        self.refused_with(TooMany(60), outline_move, WIDE, outline(WIDE, wide_word(972, 150)))

    def test_led_and_rests(self):
        for machine in MACHINES:
            for word in words(6, machine, 6, 8):
                told = outline(machine, word)
                rows = model_table(machine, word)
                rests = rest_forms(rows)
                for text in random_texts(7, machine.letters, (0, 1, 2, 3, 5, 60, 200)):
                    self.assertEqual(outline_led(machine, told, text), model_led(rows, text))
                    place = 0
                    for sign in text:
                        place = rows[place][1][int(sign)]
                    self.assertEqual(outline_rest(machine, told, text), model_outline(machine, rests[place]))
                self.assertEqual(outline_rest(machine, told, ""), told)

    def test_depths(self):
        for machine in MACHINES:
            for word in words(8, machine, 8, 8):
                self.assertEqual(outline_depth(machine, outline(machine, word)), settled(machine, word))
        for many in (1, 2, 59, 2000):
            self.assertEqual(outline_depth(ODD, chain(many)), many)
        self.assertEqual(outline_depth(ODD, (-3, ())), 0)


class Judged(Case):

    def near(self, chance, machine, value):
        """Values near an outline."""
        mark, rows = value
        many = len(core(machine))
        for other in (mark - 1, mark + 1, -many, -many - 1, 0, 1, -1, True, False, None, BIG, -BIG, BIG * BIG):
            yield other, rows
        for at, (turn, marks) in enumerate(rows):
            for letter in range(machine.letters):
                for other in (*range(-many - 1, len(rows) + 1), True, False, None, BIG * BIG, "0"):
                    changed = (turn, (*marks[:letter], other, *marks[letter + 1:]))
                    yield mark, (*rows[:at], changed, *rows[at + 1:])
            for changed in [(turn[::-1], marks), (turn, marks[:-1]), (turn, list(marks)), [turn, marks], (turn, marks, 0),
                            (turn,), None, (marks, turn), (list(turn), marks), (turn, marks + marks[-1:])]:
                yield mark, (*rows[:at], changed, *rows[at + 1:])
            yield mark, rows[:at] + rows[at + 1:]
            # A row told twice.
            yield mark, (*rows, (turn, marks))
            yield mark, rows[:at] + rows[at:at + 1] * 2 + rows[at + 1:]
        if len(rows) > 1:
            order = list(range(1, len(rows)))
            chance.shuffle(order)
            order = [0, *order]
            places = {at: place for place, at in enumerate(order)}
            yield 0, tuple(
                (rows[at][0], tuple(places.get(one, one) for one in rows[at][1])) for at in order
            )
        yield from (list(value), (mark, list(rows)), (rows, mark), (mark,), (mark, rows, 0), rows, mark)

    def test_values_near_outlines(self):
        chance = random.Random(1)
        met = {True: 0, False: 0}
        for machine in MACHINES[:16]:
            for word in words(9, machine, 3, 4):
                told = outline(machine, word)
                if len(told[1]) > 4:
                    continue
                for value in self.near(chance, machine, told):
                    judged = is_outline(machine, value)
                    self.assertIs(judged, is_model_outline(machine, value), (str(machine), value))
                    met[judged] += 1
                    if judged:
                        self.assertEqual(outline_rest(machine, value, ""), value)
                    else:
                        self.refused(InvalidOperation, outline_depth, machine, value)
        self.assertGreater(min(met.values()), 200)

    def test_all_small_ones(self):
        for machine in (ODD, GRAY):
            marks = list(itertools.product(range(-3, 2), repeat=2))
            for one, other in itertools.product(itertools.product((STAY, SWAP), marks), repeat=2):
                value = (0, (one, other))
                self.assertIs(is_outline(machine, value), is_model_outline(machine, value))
            for row in itertools.product((STAY, SWAP), marks):
                self.assertIs(is_outline(machine, (0, (row,))), is_model_outline(machine, (0, (row,))))

    def test_told_in_another_order_or_twice(self):
        right = (0, ((STAY, (1, 2)), (SWAP, (-1, -1)), (SWAP, (-3, -3))))
        self.assertIs(is_outline(ODD, right), True)
        self.assertIs(is_outline(ODD, (0, ((STAY, (2, 1)), (SWAP, (-3, -3)), (SWAP, (-1, -1))))), False)
        self.assertIs(is_outline(ODD, (0, ((STAY, (1, 2)), (SWAP, (-1, -1)), (SWAP, (-1, -1))))), False)
        self.assertIs(is_outline(ODD, (0, ((STAY, (1, 1)), (SWAP, (-1, -1)), (SWAP, (-3, -3))))), False)
        # A row of the core, a row that leads to itself, and rows that lead to one another.
        self.assertIs(is_outline(ODD, (0, ((STAY, (1, 2)), (SWAP, (-1, -3)), (SWAP, (-3, -3))))), False)
        self.assertIs(is_outline(ODD, (0, ((STAY, (1, 2)), (SWAP, (-1, 1)), (SWAP, (-3, -3))))), False)
        self.assertIs(is_outline(ODD, (0, ((STAY, (1, 2)), (SWAP, (-1, 2)), (SWAP, (1, -3))))), False)
        # A row can stand ahead of one that leads to it.
        self.assertIs(is_outline(ODD, (0, ((STAY, (1, 2)), (SWAP, (-1, -1)), (SWAP, (1, -3))))), True)
        self.assertIs(is_outline(ODD, (0, ((STAY, (1, 2)), (SWAP, (2, -1)), (SWAP, (-1, -1))))), True)

    def test_two_thousand_rows_and_more(self):
        self.assertIs(is_outline(ODD, chain(2000)), True)
        self.assertIs(is_outline(ODD, chain(2001)), False)
        self.assertIs(is_outline(ODD, (0, chain(3)[1] * 1000)), False)
        self.assertIs(is_outline(WIDE, outline(WIDE, wide_word(972, 157))), True)
        self.refused(InvalidOperation, outline_depth, ODD, chain(2001))

    def test_all_kinds(self):
        for value in VALUES:
            for machine in (ODD, HANOI):
                self.assertIs(is_outline(machine, value), False)
                told = type(value) is int and -len(core(machine)) <= value < 0
                self.assertIs(is_outline(machine, (value, ())), told)
                self.assertIs(is_outline(machine, (0, value)), False)
                self.assertIs(is_outline(machine, (0, (value,))), False)


class Products(Case):

    def test_products_and_undone_moves(self):
        for machine in MACHINES:
            some = words(10, machine, 5, 5)
            for one, other in itertools.product(some, repeat=2):
                both = outline_product(machine, outline(machine, one), outline(machine, other))
                self.assertEqual(both, outline(machine, (*one, *other)))
            for word in some:
                back = outline_undone(machine, outline(machine, word))
                self.assertEqual(back, outline(machine, undone_word(machine, word)))
                self.assertEqual(outline_product(machine, outline(machine, word), back), STILL)
                self.assertEqual(outline_undone(machine, back), outline(machine, word))

    def test_moves_of_no_words(self):
        chance = random.Random(11)
        for machine in MACHINES[:10]:
            many = len(core(machine))
            some = []
            for _ in range(4):
                turns = [tuple(chance.sample(range(machine.letters), machine.letters)) for _ in range(2)]
                inner = joined_outline(machine, turns[0], *[(-chance.randint(1, many), ()) for _ in turns[0]])
                some.append(joined_outline(machine, turns[1], inner, *[(-chance.randint(1, many), ())] * (machine.letters - 1)))
            for one, other in itertools.product(some, repeat=2):
                forms = [outline_form(machine, value) for value in (one, other)]
                both = least(product_rows(*forms))
                self.assertEqual(outline_product(machine, one, other), model_outline(machine, both))
                self.assertEqual(outline_undone(machine, one), model_outline(machine, least(undone_rows(forms[0]))))

    def test_powers(self):
        for machine in MACHINES:
            for word in words(12, machine, 3, 3):
                one = outline(machine, word)
                steps = sum(abs(number) for _, number in word)
                for number in (0, 1, 2, 3, 4, 7, 10):
                    if steps * number <= 60:
                        self.assertEqual(outline_power(machine, one, number), outline(machine, word * number))
                        self.assertEqual(outline_power(machine, one, -number), outline(machine, undone_word(machine, word * number)))

    def test_great_powers(self):
        one = outline(ODD, (("a", 1),))
        for number in (10 ** 60 - 1, 10 ** 59, 2 ** 199, 12345678901234567890, -1, -(10 ** 60 - 1), -10 ** 30):
            far = outline_power(ODD, one, number)
            text = outline_led(ODD, far, "0" * 200)
            self.assertEqual(index_of(2, text[::-1]), number % 2 ** 200)
            self.assertIs(is_outline(ODD, far), True)
        self.assertEqual([len(outline_power(ODD, one, 2 ** k)[1]) for k in (0, 1, 2, 50, 150, 199)], [0, 1, 2, 50, 150, 199])
        chance = random.Random(13)
        for machine in (HANOI, FOLDED, GRAY, counter(4)):
            for word in words(14, machine, 3, 4):
                one = outline(machine, word)
                first, second = chance.randrange(10 ** 20), chance.randrange(-10 ** 20, 10 ** 20)
                powers = [outline_power(machine, one, number) for number in (first, second, first + second)]
                self.assertEqual(outline_product(machine, *powers[:2]), powers[2])
                self.assertEqual(outline_undone(machine, powers[0]), outline_power(machine, one, -first))

    def test_powers_of_finite_order(self):
        for state in "abc":
            one = outline(HANOI, ((state, 1),))
            self.assertEqual(outline_power(HANOI, one, 10 ** 59), STILL)
            self.assertEqual(outline_power(HANOI, one, 10 ** 59 + 1), one)

    def test_numbers_of_sixty_digits_and_of_more(self):
        one = outline(ODD, (("a", 1),))
        for number in (10 ** 60, -10 ** 60, 10 ** 60 + 1, BIG):
            self.refused_with(InvalidNumber(number), outline_power, ODD, one, number)
        for number in (10 ** 60 - 1, 1 - 10 ** 60):
            self.assertTrue(is_outline(ODD, outline_power(ODD, one, number)))

    def commuting(self, many):
        """Two outlines of so many rows that are their own undone ones, and whose product has far more rows."""
        machine = counter(4)
        told = []
        for steps in ((1, 2), (2, 1)):
            rows = {at: ((0, 1, 2, 3), tuple(min(at + step, many - 1) for step in steps) + (-1, -1)) for at in range(many - 1)}
            rows[many - 1] = ((0, 1, 3, 2), (-1,) * 4)
            order = [0]
            for at in order:
                order.extend(dict.fromkeys(one for one in rows[at][1] if one >= 0 and one not in order))
            told.append((0, tuple(
                (rows[at][0], tuple(order.index(one) if one >= 0 else one for one in rows[at][1])) for at in order
            )))
        return machine, *told

    def test_products_of_more_than_two_thousand_rows(self):
        machine, one, other = self.commuting(90)
        self.assertTrue(is_outline(machine, one) and is_outline(machine, other))
        both = outline_product(machine, one, other)
        self.assertGreater(len(both[1]), 1000)
        self.assertEqual(outline_product(machine, other, one), both)
        machine, one, other = self.commuting(130)
        self.refused_with(TooMany(2000), outline_product, machine, one, other)
        self.assertEqual(outline_product(machine, one, one), STILL)
        self.assertEqual(outline_product(ODD, chain(2000), chain(2000)), STILL)
        self.assertEqual(len(outline_product(ODD, chain(2000), chain(1999))[1]), 2000)

    def test_powers_on_the_way(self):
        # Its square has more than 2000 rows, and four times it is idle.
        machine, one, other = self.commuting(130)
        both = joined_outline(machine, (1, 0, 2, 3), one, other, STILL, STILL)
        self.assertLess(len(both[1]), 300)
        for number in (2, 3, 4, 5, 100, -2, -3, -4, 10 ** 59):
            self.refused_with(TooMany(2000), outline_power, machine, both, number)
        self.assertEqual(outline_power(machine, both, 1), both)
        self.assertEqual(outline_power(machine, both, -1), outline_undone(machine, both))
        self.assertEqual(outline_power(machine, both, 0), STILL)
        machine, one, other = self.commuting(90)
        both = joined_outline(machine, (1, 0, 2, 3), one, other, STILL, STILL)
        self.assertGreater(len(outline_power(machine, both, 2)[1]), 1000)
        self.assertEqual(outline_power(machine, both, 4), STILL)
        self.assertEqual(outline_power(machine, both, 10 ** 59 + 1), both)

    def test_just_two_thousand_rows(self):
        self.assertEqual(joined_outline(ODD, STAY, chain(1999), STILL), chain(2000))
        self.refused_with(TooMany(2000), joined_outline, ODD, STAY, chain(2000), STILL)
        self.refused_with(TooMany(2000), joined_outline, ODD, SWAP, STILL, chain(2000))
        self.assertEqual(len(joined_outline(ODD, SWAP, chain(1999), chain(1998))[1]), 2000)
        self.assertEqual(outline_undone(ODD, chain(2000)), chain(2000))

    def test_products_of_just_two_thousand_rows(self):
        # The one goes on behind 0 alone, the other one behind 1 alone.
        def mirrored(many):
            return 0, tuple((turn, marks[::-1]) for turn, marks in chain(many)[1])

        # All last rows are alike; row 0 of the one stands in the place of row 0 of the other.
        self.assertEqual(len(outline_product(ODD, chain(1001), mirrored(1001))[1]), 2000)
        self.refused_with(TooMany(2000), outline_product, ODD, chain(1001), mirrored(1002))
        self.refused_with(TooMany(2000), outline_product, ODD, mirrored(2000), chain(2000))


class Joined(Case):

    def test_joined_from_its_rests(self):
        for machine in MACHINES:
            for word in words(16, machine, 6, 6):
                told = outline(machine, word)
                rests = [outline_rest(machine, told, str(letter)) for letter in range(machine.letters)]
                turn = tuple(int(outline_led(machine, told, str(letter))) for letter in range(machine.letters))
                self.assertEqual(joined_outline(machine, turn, *rests), told)

    def test_against_the_forms(self):
        chance = random.Random(17)
        for machine in MACHINES[:12]:
            some = [outline(machine, word) for word in words(18, machine, 4, 4)]
            for _ in range(5):
                turn = tuple(chance.sample(range(machine.letters), machine.letters))
                rests = [chance.choice(some) for _ in turn]
                told = joined_outline(machine, turn, *rests)
                for text in short_texts(machine.letters, 3)[1:]:
                    come = outline_led(machine, rests[int(text[0])], text[1:])
                    self.assertEqual(outline_led(machine, told, text), str(turn[int(text[0])]) + come)
                self.assertTrue(is_model_outline(machine, told))


class Refused(Case):

    def calls(self, machine):
        """All functions with arguments that are right for this machine, the outlines behind the others."""
        word, still = (), idle(machine.letters)
        return [
            (outline, machine, word), (outline_of, machine, still), (is_outline, machine, None),
            (outline_led, machine, STILL, "0"), (outline_rest, machine, STILL, "0"), (outline_depth, machine, STILL),
            (outline_move, machine, STILL), (outline_product, machine, STILL, STILL), (outline_undone, machine, STILL),
            (outline_power, machine, STILL, 3),
            (joined_outline, machine, tuple(range(machine.letters)), *[STILL] * machine.letters),
        ]

    def test_machines_come_first(self):
        for call, _, *others in self.calls(ODD):
            for value in VALUES:
                if not isinstance(value, Machine):
                    self.refused(InvalidMachine, call, value, *others)
                    self.refused(InvalidMachine, call, value, *[value for _ in others])

    def test_loud_machines_and_great_cores(self):
        both = MORE.with_state("z", (1, 2, 0), ("z", "z", "a"))
        for machine, error in ((LAMP, Loud("a")), (LONG, Loud("c")), (MORE, TooMany(60)), (both, Loud("z"))):
            for call, *others in self.calls(machine):
                self.refused_with(error, call, *others)
        for call, *others in self.calls(SIXTY):
            call(*others)

    def test_wrong_outlines_come_last(self):
        for value in VALUES:
            told = [
                (outline_led, value, "0"), (outline_rest, value, "0"), (outline_depth, value), (outline_move, value),
                (outline_product, value, STILL), (outline_product, STILL, value), (outline_product, value, value),
                (outline_undone, value), (outline_power, value, 2), (joined_outline, STAY, value, STILL),
                (joined_outline, STAY, STILL, value), (joined_outline, STAY, value), (joined_outline, STAY),
                (joined_outline, STAY, STILL, STILL, STILL), (joined_outline, STAY, value, value, value),
            ]
            for call, *others in told:
                self.refused(InvalidOperation, call, ODD, *others)
                self.refused_with(Loud("a"), call, LAMP, *others)
                if call not in (joined_outline,) and value in (None, (), "idle", 3):
                    self.refused_with(TooMany(60), call, MORE, *others)

    def test_outlines_of_other_machines(self):
        self.refused(InvalidOperation, outline_depth, ODD, outline(HANOI, (("a", 1), ("b", 1))))
        self.refused(InvalidOperation, outline_depth, ODD, (-4, ()))
        self.refused(InvalidOperation, outline_product, GRAY, outline(GRAY, ()), outline(ODD, (("a", 8),))[1])

    def test_wrong_words_moves_and_texts(self):
        for machine in (ODD, LAMP):
            for value in VALUES:
                if not is_word(ODD, value):
                    self.refused(InvalidWord, outline, machine, value)
                if not isinstance(value, Move) or value.letters != 2:
                    self.refused(InvalidMove, outline_of, machine, value)
                if not is_text(2, value):
                    for call in (outline_led, outline_rest):
                        self.refused(InvalidText, call, machine, STILL, value)
                        self.refused(InvalidText, call, machine, value, value)
                if not is_turn(2, value):
                    self.refused(InvalidMove, joined_outline, machine, value, STILL, STILL)
                    self.refused(InvalidMove, joined_outline, machine, value)
                    self.refused(InvalidMove, joined_outline, machine, value, value, value, value)
                if type(value) is not int or abs(value) >= 10 ** 60:
                    self.refused_with(InvalidNumber(value), outline_power, machine, STILL, value)
                    self.refused_with(InvalidNumber(value), outline_power, machine, value, value)
        for move in (idle(3), idle(4)):
            self.refused(InvalidMove, outline_of, ODD, move)
        self.refused(InvalidMove, joined_outline, ODD, (0, 1, 2), STILL, STILL, STILL)

    def test_nothing_is_changed(self):
        told = chain(1999)
        kept = tuple(told)
        self.refused_with(TooMany(2000), joined_outline, ODD, STAY, chain(2000), chain(1999))
        outline_power(ODD, told, 3), outline_undone(ODD, told)
        self.assertEqual(told, kept)
