"""Words: who is one, what they lead texts to, and the moves that they make."""

import itertools
import random

from support import (
    BIG, FOLDED, GRAY, HANOI, LAMP, ODD, VALUES, Case, model_least, model_product, model_step, random_table,
    random_texts,
)
from textmovers.base.letters import is_text
from textmovers.errors import InvalidMachine, InvalidNumber, InvalidText, InvalidWord, TooMany
from textmovers.machine.known import counter
from textmovers.machine.machines import Machine
from textmovers.move.moves import idle, move_of
from textmovers.move.words import (
    first_words, is_word, joined_word, led, passed, undone_word, way_of, word_move,
)

MACHINES = (ODD, GRAY, HANOI, FOLDED, LAMP, counter(3), counter(4))
NO_MACHINES = [value for value in VALUES if not isinstance(value, Machine)]


def table_of(machine):
    """The dict of a machine that its methods tell."""
    return {name: (machine.turn(name), machine.nexts(name)) for name in machine}


def model_is_word(states, value):
    """What the document says of a word, part by part."""
    if type(value) is not tuple:
        return False
    for pair in value:
        if type(pair) is not tuple or len(pair) != 2:
            return False
        if type(pair[0]) is not str or pair[0] not in states:
            return False
        if type(pair[1]) is not int or pair[1] == 0:
            return False
    return sum(abs(number) for _, number in value) <= 200


def random_word(chance, machine, most):
    """A word of at most so many steps."""
    pairs = []
    left = chance.randint(0, most)
    while left:
        number = chance.randint(1, min(left, 5))
        left -= number
        pairs.append((chance.choice(machine.states), number * chance.choice((1, -1))))
    return tuple(pairs)


def single_steps(word):
    """The steps of a word, each as a state and 1 or -1."""
    return [(state, number // abs(number)) for state, number in word for _ in range(abs(number))]


def told_by_pairs(steps):
    """The word of steps, as many equal ones in each pair as stand side by side."""
    return tuple((step[0], step[1] * len(list(many))) for step, many in itertools.groupby(steps))


def model_back(table, state, text):
    """The text that the state leads to this one, and the state behind it."""
    come = ""
    for sign in text:
        turn, nexts = table[state]
        letter = [at for at in range(len(turn)) if turn[at] == int(sign)][0]
        come += str(letter)
        state = nexts[letter]
    return come, state


def model_way(machine, word, text):
    """All texts on the way, and the steps that are left."""
    table = table_of(machine)
    way, left = [text], []
    for state, sign in single_steps(word):
        come, behind = (model_step if sign > 0 else model_back)(table, state, way[-1])
        way.append(come)
        left.append((behind, sign))
    return tuple(way), left


def some_words(seed, most=12, rounds=15):
    """Pairs of a machine and a word of it."""
    chance = random.Random(seed)
    return [(machine, random_word(chance, machine, most)) for machine in MACHINES for _ in range(rounds)]


class Judged(Case):

    def test_numbers_of_steps(self):
        for many in (199, 200, 201, 202):
            for word in (
                (("a", many),), (("a", -many),), (("a", many - 1), ("e", 1)), (("a", 100), ("e", 100 - many)),
                (("a", 1),) * many, (("a", 1), ("a", -1)) * (many // 2) + (("e", -1),) * (many % 2),
            ):
                self.assertIs(is_word(ODD, word), many <= 200, word)

    def test_pairs_of_one_state_side_by_side(self):
        for word in ((("a", 1), ("a", 1)), (("a", 2), ("a", -2)), (("a", -1), ("a", -3), ("e", 1))):
            self.assertIs(is_word(ODD, word), True)
        self.assertIs(is_word(ODD, ()), True)

    def test_wrong_numbers(self):
        for number in (0, True, False, None, "1", "", (1,), [1], {}, BIG, -BIG, 10 ** 60, 201, -201):
            self.assertIs(is_word(ODD, (("a", number),)), False)
            self.assertIs(is_word(ODD, (("a", 1), ("e", number))), False)

    def test_great_numbers_do_not_cancel(self):
        self.assertIs(is_word(ODD, (("a", BIG), ("a", -BIG))), False)
        self.assertIs(is_word(ODD, (("a", 150), ("a", -150))), False)

    def test_wrong_states(self):
        for state in VALUES:
            if state not in ("a", "e"):
                self.assertIs(is_word(ODD, ((state, 1),)), False)
                self.assertIs(is_word(ODD, (("a", 1), (state, -1))), False)

    def test_lists_for_tuples(self):
        for value in ([("a", 1)], (["a", 1],), [["a", 1]], {"a": 1}, (("a", 1), ["e", 1]), ("a", 1), "a", (("a",),)):
            self.assertIs(is_word(ODD, value), False)
        for pair in (("a", 1, 1), ("a",), (), (1, "a"), "a1", {"a": 1}):
            self.assertIs(is_word(ODD, (pair,)), False)
            self.assertIs(is_word(ODD, (("a", 1), pair)), False)

    def test_all_kinds(self):
        for machine in MACHINES:
            for value in VALUES:
                self.assertIs(is_word(machine, value), model_is_word(machine.states, value), value)
            for one, other in itertools.product(VALUES, repeat=2):
                value = ((one, other), ("a", 1))
                self.assertIs(is_word(machine, value), model_is_word(machine.states, value), value)

    def test_by_chance(self):
        for machine, word in some_words(1, 200):
            self.assertIs(is_word(machine, word), True)

    def test_machines(self):
        for value in NO_MACHINES:
            self.refused(InvalidMachine, is_word, value, (("a", 1),))
            self.refused(InvalidMachine, is_word, value, None)


class Leading(Case):

    def test_step_by_step(self):
        for machine, word in some_words(2):
            for text in random_texts(3, machine.letters, (0, 1, 2, 3, 10)):
                way, left = model_way(machine, word, text)
                self.assertEqual(way_of(machine, word, text), way)
                self.assertEqual(led(machine, word, text), way[-1])
                self.assertEqual(passed(machine, word, text), (told_by_pairs(left), way[-1]))

    def test_long_words_and_texts(self):
        for machine, word in some_words(3, 200, 2):
            for text in random_texts(4, machine.letters, (200,)):
                way, left = model_way(machine, word, text)
                self.assertEqual(way_of(machine, word, text), way)
                self.assertEqual(passed(machine, word, text), (told_by_pairs(left), way[-1]))

    def test_the_empty_word(self):
        self.assertEqual(way_of(ODD, (), "011"), ("011",))
        self.assertEqual(led(ODD, (), "011"), "011")
        self.assertEqual(passed(ODD, (), "011"), ((), "011"))

    def test_two_hundred_steps(self):
        way = way_of(ODD, (("a", 200),), "0" * 8)
        self.assertEqual([int(text[::-1], 2) for text in way], list(range(201)))
        self.assertEqual(led(ODD, (("a", -200),), way[-1]), "0" * 8)

    def test_pairs_become_one(self):
        self.assertEqual(passed(ODD, (("a", 1), ("a", 1), ("a", -1)), ""), ((("a", 2), ("a", -1)), ""))
        word = (("a", 3), ("e", -2), ("e", 1))
        self.assertEqual(passed(ODD, word, "0"), ((("e", 1), ("a", 1), ("e", 1), ("e", -2), ("e", 1)), "1"))
        self.assertEqual(passed(GRAY, (("b", 1), ("e", 1), ("e", -1)), "0"), ((("b", 1), ("e", 1), ("e", -1)), "0"))
        self.assertEqual(passed(HANOI, (("a", 1), ("b", 2)), "1"), ((("e", 3),), "0"))

    def test_what_is_left_is_the_rest(self):
        for machine, word in some_words(5, 4):
            move = word_move(machine, word)
            for text in random_texts(5, machine.letters, (0, 1, 2, 4, 9)):
                left, come = passed(machine, word, text)
                self.assertEqual(come, move(text))
                self.assertIs(is_word(machine, left), True)
                self.assertEqual(len(single_steps(left)), len(single_steps(word)))
                self.assertTrue(word_move(machine, left) == move.rest(text))


class Moves(Case):

    def test_products_step_by_step(self):
        for machine, word in some_words(6, 5):
            move = idle(machine.letters)
            for state, sign in single_steps(word):
                step = move_of(machine, state)
                move = move * (step if sign > 0 else ~step)
            self.assertTrue(word_move(machine, word) == move)
            for text in random_texts(6, machine.letters, (0, 1, 3, 50)):
                self.assertEqual(move(text), led(machine, word, text))

    def test_two_hundred_steps(self):
        self.assertTrue(word_move(ODD, (("a", 200),)) == word_move(ODD, (("a", 100),)) * move_of(ODD, "a").power(100))
        self.assertTrue(word_move(ODD, (("a", 100), ("a", -100))).is_idle)

    def test_too_many_rests(self):
        self.assertEqual(len(word_move(LAMP, (("a", 5),))), 32)
        self.assertTrue(word_move(LAMP, (("a", 5), ("a", -5))).is_idle)
        for word in ((("a", 6),), (("a", -6),), (("a", 6), ("a", -6)), (("a", 6), ("a", -1)), (("b", 6), ("b", -6))):
            self.refused_with(TooMany(60), word_move, LAMP, word)
        self.refused_with(TooMany(60), word_move, LAMP, (("a", 5), ("a", -5), ("a", 6), ("a", -6)))

    def test_refused_exactly_where_a_beginning_is_too_great(self):
        chance = random.Random(7)
        refused = 0
        for _ in range(40):
            machine = Machine(2, random_table(chance, 2, 3))
            word = random_word(chance, machine, 12)
            rows = idle(2).rows
            great = False
            for state, sign in single_steps(word):
                step = move_of(machine, state)
                rows = model_least(model_product(rows, (step if sign > 0 else ~step).rows))
                great = great or len(rows) > 60
                if great:
                    break
            if great:
                refused += 1
                self.refused_with(TooMany(60), word_move, machine, word)
            else:
                self.assertEqual(word_move(machine, word).rows, rows)
        self.assertGreater(refused, 3)


class Undone(Case):

    def test_pairs_backwards(self):
        for machine, word in some_words(8):
            back = undone_word(machine, word)
            self.assertEqual(back, tuple((state, -number) for state, number in reversed(word)))
            self.assertEqual(undone_word(machine, back), word)
            for text in random_texts(8, machine.letters, (0, 1, 5, 100)):
                self.assertEqual(led(machine, back, led(machine, word, text)), text)
        self.assertEqual(undone_word(ODD, ()), ())
        self.assertEqual(undone_word(ODD, (("a", 1), ("a", 1))), (("a", -1), ("a", -1)))

    def test_the_undone_move(self):
        for machine, word in some_words(9, 4):
            self.assertTrue(word_move(machine, undone_word(machine, word)) == ~word_move(machine, word))


class Joined(Case):

    def test_no_pairs_in_common(self):
        self.assertEqual(joined_word(ODD, (("a", 1),), (("e", 2),)), (("a", 1), ("e", 2)))
        self.assertEqual(joined_word(ODD, (), ()), ())
        self.assertEqual(joined_word(ODD, (("a", 1),), ()), (("a", 1),))
        self.assertEqual(joined_word(ODD, (), (("a", 1),)), (("a", 1),))

    def test_pairs_become_one(self):
        self.assertEqual(joined_word(ODD, (("a", 1),), (("a", 2),)), (("a", 3),))
        self.assertEqual(joined_word(ODD, (("a", 5),), (("a", -2), ("e", 1))), (("a", 3), ("e", 1)))
        self.assertEqual(joined_word(ODD, (("e", 1), ("a", 1)), (("a", -3),)), (("e", 1), ("a", -2)))

    def test_pairs_become_none(self):
        self.assertEqual(joined_word(ODD, (("a", 3),), (("a", -3),)), ())
        self.assertEqual(joined_word(HANOI, (("a", 1), ("b", 2)), (("b", -2), ("a", -1), ("c", 1))), (("c", 1),))
        self.assertEqual(joined_word(HANOI, (("a", 1), ("b", 2)), (("b", -2), ("c", 1))), (("a", 1), ("c", 1)))

    def test_again_and_again(self):
        self.assertEqual(joined_word(ODD, (("a", 1),), (("a", 1), ("a", 1), ("a", -5), ("e", 1))), (("a", -2), ("e", 1)))
        self.assertEqual(joined_word(ODD, (("a", 1),), (("a", -1), ("a", 4))), (("a", 4),))
        self.assertEqual(joined_word(ODD, (("a", 2), ("a", 1)), (("a", -1), ("a", 4))), (("a", 6),))
        self.assertEqual(joined_word(ODD, (("a", 2), ("a", 1)), (("a", 1), ("e", 1))), (("a", 2), ("a", 2), ("e", 1)))
        self.assertEqual(joined_word(ODD, (("a", 1), ("e", 1), ("a", 1)), (("a", -1), ("e", -1), ("a", -1))), ())
        self.assertEqual(joined_word(HANOI, (("a", 3), ("b", 1)), (("b", -1), ("a", -1), ("b", 1))), (("a", 2), ("b", 1)))

    def test_other_pairs_stay(self):
        self.assertEqual(
            joined_word(ODD, (("a", 1), ("a", 1), ("e", 1)), (("a", 1), ("a", -1))),
            (("a", 1), ("a", 1), ("e", 1), ("a", 1), ("a", -1)),
        )

    def test_too_many_steps(self):
        self.assertEqual(joined_word(ODD, (("a", 100),), (("a", 100),)), (("a", 200),))
        self.assertEqual(joined_word(ODD, (("a", 100),), (("e", -100),)), (("a", 100), ("e", -100)))
        self.assertEqual(joined_word(ODD, (("a", 200),), (("a", -200),)), ())
        self.assertEqual(joined_word(ODD, (("e", 99), ("a", 101)), (("a", -1), ("e", 1))), (("e", 99), ("a", 100), ("e", 1)))
        for one, other in (
            ((("a", 101),), (("a", 100),)), ((("a", 100),), (("e", -101),)), ((("a", 200),), (("a", 200),)),
            ((("a", -200),), (("a", -1),)), ((("e", 100), ("a", 100)), (("a", -1), ("e", 2))), ((("e", 200),), (("a", 1),)),
        ):
            self.refused_with(TooMany(200), joined_word, ODD, one, other)

    def test_moves_of_joined_words(self):
        chance = random.Random(10)
        for machine in MACHINES:
            for _ in range(20):
                one, other = random_word(chance, machine, 30), random_word(chance, machine, 30)
                if chance.random() < 0.5:
                    other = undone_word(machine, one[chance.randrange(len(one) + 1):]) + other
                    other = other if is_word(machine, other) else ()
                both = joined_word(machine, one, other)
                self.assertIs(is_word(machine, both), True)
                for text in random_texts(10, machine.letters, (1, 4, 30)):
                    self.assertEqual(led(machine, both, text), led(machine, other, led(machine, one, text)))


class FirstWords(Case):

    def model(self, machine, steps):
        """Each unlike move of all words, in their order, with its first word, or None if one is too great."""
        single = [(state, sign) for state in sorted(machine.states) for sign in (1, -1)]
        found = {}
        for many in range(steps + 1):
            for word in itertools.product(single, repeat=many):
                try:
                    rows = word_move(machine, told_by_pairs(word)).rows
                except TooMany:
                    return None
                found.setdefault(rows, told_by_pairs(word))
        return [(word, rows) for rows, word in found.items()]

    def test_known_machines(self):
        for machine in (ODD, GRAY, FOLDED, LAMP, counter(3), HANOI):
            for steps in range(4):
                found = first_words(machine, steps)
                self.assertIs(type(found), tuple)
                self.assertEqual([(word, move.rows) for word, move in found], self.model(machine, steps))

    def test_machines_by_chance(self):
        chance = random.Random(11)
        great = 0
        for letters, many, steps in [(2, 1, 3), (3, 1, 3), (2, 2, 3), (3, 2, 2), (2, 3, 3), (2, 4, 2), (2, 3, 3), (4, 3, 1),
                                     (2, 8, 1), (3, 8, 2), (2, 2, 3), (2, 2, 3)]:
            machine = Machine(letters, random_table(chance, letters, many))
            told = self.model(machine, steps)
            if told is None:
                great += 1
                self.refused_with(TooMany(60), first_words, machine, steps)
            else:
                self.assertEqual([(word, move.rows) for word, move in first_words(machine, steps)], told)
        self.assertGreater(great, 0)

    def test_order_of_the_steps(self):
        machine = Machine(3, {
            "a": ((1, 2, 0), ("a", "e", "e")), "b": ((1, 0, 2), ("e", "e", "e")), "e": ((0, 1, 2), ("e",) * 3),
        })
        words = [word for word, _ in first_words(machine, 2)]
        self.assertEqual(words[:7], [
            (), (("a", 1),), (("a", -1),), (("b", 1),), (("a", 2),), (("a", 1), ("b", 1)), (("a", -2),),
        ])

    def test_wrong_numbers(self):
        for steps in VALUES:
            if type(steps) is not int or not 0 <= steps <= 3:
                self.refused_with(InvalidNumber(steps), first_words, ODD, steps)
        for steps in (4, -1, True, False, BIG):
            self.refused_with(InvalidNumber(steps), first_words, LAMP, steps)


class Refused(Case):

    CALLS = (
        lambda machine, word: word_move(machine, word),
        lambda machine, word: led(machine, word, None),
        lambda machine, word: led(machine, word, "0"),
        lambda machine, word: way_of(machine, word, "2x"),
        lambda machine, word: way_of(machine, word, "0"),
        lambda machine, word: passed(machine, word, ()),
        lambda machine, word: passed(machine, word, "0"),
        lambda machine, word: undone_word(machine, word),
        lambda machine, word: joined_word(machine, word, ()),
        lambda machine, word: joined_word(machine, word, None),
    )

    def test_machines_decide_first(self):
        for machine in NO_MACHINES:
            for call in self.CALLS:
                for word in ((), (("a", 1),), None, "a"):
                    self.refused(InvalidMachine, call, machine, word)
            for steps in (0, 4, None):
                self.refused(InvalidMachine, first_words, machine, steps)

    def test_words_come_next(self):
        for word in [*VALUES, (("a", 201),), (("c", 1),), [("a", 1)], (("a", True),), (("a", 0),), ("a", 1)]:
            if not model_is_word(ODD.states, word):
                for call in self.CALLS:
                    self.refused(InvalidWord, call, ODD, word)
                self.refused(InvalidWord, joined_word, ODD, (), word)
                self.refused(InvalidWord, joined_word, ODD, (("a", 200),), word)

    def test_texts_come_last(self):
        for text in VALUES:
            if not is_text(2, text):
                for call in (led, way_of, passed):
                    self.refused(InvalidText, call, ODD, (), text)
                    self.refused(InvalidText, call, ODD, (("a", 1), ("e", -1)), text)
        for call in (led, way_of, passed):
            self.refused(InvalidText, call, HANOI, (("a", 1),), "0123")

    def test_nothing_is_changed(self):
        told = str(HANOI)
        for call in (led, way_of, passed):
            call(HANOI, (("a", 3), ("b", -1)), "012")
        first_words(HANOI, 2)
        self.assertEqual(str(HANOI), told)
