"""Unlike moves under numbers, and the powers that they and forests tell."""

import random

from support import GRAY, HANOI, LAMP, ODD, Case, quiet_machines, random_rows, ring_move
from textmovers.core.powers import doubled_number, has_few_rows, powered_number
from textmovers.core.trees import forest_of, word_number
from textmovers.errors import TooMany
from textmovers.move.gathering import Gathering, plain_power_form, power_form
from textmovers.move.moves import Move, move_of
from textmovers.move.tables import alike_groups, idle_rows, least_of_met, least_rows, product_rows, rows_from, undone_rows


def some_rows(seed, letters):
    """Rows by chance: most of quiet moves, and some of moves of any kind."""
    chance = random.Random(seed)
    if chance.random() < 0.5:
        return random_rows(chance, letters, chance.randint(1, 3))
    machine = quiet_machines(seed, 1, sizes=(3, 4), letters=(letters,))[0]
    return move_of(machine, machine.states[0]).rows


class Gatherings(Case):

    def test_products_against_plain_ones(self):
        for seed in range(150):
            chance = random.Random(seed)
            letters = chance.choice((2, 2, 3))
            gathering = Gathering(idle_rows(letters))
            numbers = [0]
            for at in range(3):
                rows = some_rows(3 * seed + at, letters)
                for place, number in enumerate(gathering.planted(rows)):
                    self.assertEqual(gathering.form(number), least_rows(rows_from(rows, place), 10 ** 9))
                    numbers.append(number)
            for _ in range(10):
                one, other = chance.choice(numbers), chance.choice(numbers)
                forms = gathering.form(one), gathering.form(other)
                if len(forms[0]) * len(forms[1]) <= 400:
                    number = gathering.product(one, other)
                    self.assertEqual(gathering.form(number), least_of_met(product_rows(*forms), 10 ** 9))
                    self.assertEqual(gathering.has_few_rests(number), len(gathering.form(number)) <= 60)
                    numbers.append(number)
            # Equal moves have one number.
            if gathering.size() < 800:
                table = gathering.planted(joined_forms([gathering.form(number) for number in numbers]))
                self.assertEqual(len(alike_groups(joined_forms([gathering.form(number) for number in numbers]), 10 ** 9)), len(table))
                starts = [sum(len(gathering.form(one)) for one in numbers[:at]) for at in range(len(numbers))]
                self.assertEqual([table[start] for start in starts], numbers)

    def test_powers_against_products(self):
        for letters in (2, 3):
            for seed in range(40):
                rows = least_rows(some_rows(seed, letters), 10 ** 9)
                form, told = idle_rows(letters), power_form(letters, rows, 0)
                for number in range(1, 12):
                    self.assertEqual(told, form)
                    form = form and least_of_met(product_rows(form, rows), 60)
                    told = power_form(letters, rows, number)
                    self.assertEqual(plain_power_form(idle_rows(letters), rows, number), told)

    def test_many_rows_in_the_powers(self):
        for many in (7, 30, 59):
            move = ring_move(many, 4) * Move(4, ((1, 2, 3, 0), (0, 0, 0, 0)))
            try:
                told = move.power(40)
            except TooMany:
                told = None
            form = plain_power_form(idle_rows(4), move.rows, 40)
            self.assertEqual(told and told.rows, form)
        self.assertEqual(ring_move(60).power(100).rows, idle_rows(2))
        self.assertEqual(ring_move(60).power(-99), ring_move(60))


def joined_forms(forms):
    """The rows of several least forms, one behind the other."""
    rows = []
    for form in forms:
        start = len(rows)
        rows.extend((turn, tuple(start + behind for behind in nexts)) for turn, nexts in form)
    return rows


class GreatPowers(Case):

    def test_along_rings_against_doubling(self):
        held = 0
        for seed, machine in enumerate([ODD, GRAY, HANOI, *quiet_machines(5, 60, sizes=(2, 3, 4))]):
            try:
                forest, steps = forest_of(machine)
            except TooMany:
                continue
            chance = random.Random(seed)
            for _ in range(4):
                word = tuple((chance.choice(machine.states), chance.choice((1, -1, 2))) for _ in range(chance.randint(1, 4)))
                once = word_number(forest, steps, word)
                for number in (0, 1, 2, 15, 16, 17, 31, 100, 10 ** 6, 10 ** 12 + 7):
                    self.assertEqual(powered_number(forest, once, number), doubled_number(forest, (once, number)))
                held += 1
        self.assertGreater(held, 150)

    def test_few_rows_are_few(self):
        seen = {True: 0, False: 0}
        for seed, machine in enumerate(quiet_machines(6, 50, sizes=(2, 3, 4))):
            try:
                forest, steps = forest_of(machine)
            except TooMany:
                continue
            chance = random.Random(seed)
            word = tuple((chance.choice(machine.states), chance.choice((1, -1))) for _ in range(4))
            square = once = word_number(forest, steps, word)
            for doublings in range(8):
                for most in (10, 30, 100):
                    few = has_few_rows(forest, once, doublings, most)
                    seen[few] += 1
                    if few:
                        self.assertLessEqual(len(forest.outside(square, None)), most)
                square = forest.limited_product(square, square, None)
        self.assertGreater(min(seen.values()), 100)

    def test_undone_moves(self):
        for machine in (ODD, GRAY, HANOI):
            forest, steps = forest_of(machine)
            for state in machine:
                number = forest.undone_number(word_number(forest, steps, ((state, 20),)))
                self.assertEqual(number, word_number(forest, steps, ((state, -20),)))
                form = forest.form(number)
                self.assertEqual(rows_from(undone_rows(form), 0), forest.form(forest.undone_number(number)))
        self.assertEqual(len(LAMP), 2)
