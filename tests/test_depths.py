"""Counts of patterns, rotations and their sums, and the depths of rotating machines."""

import itertools
import math
import random

from refusals import any_place, hold_refusals, is_integer, machine_place, number_place, text_place, word_place
from support import (
    BIG, FLIP, FOLDED, GRAY, HANOI, LAMP, LONG, ODD, VALUES, Case, all_texts, random_texts, short_texts, told_machine,
)
from textmovers.errors import InvalidMachine, InvalidNumber, InvalidOperation, TooMany
from textmovers.level.depths import (
    are_same, count, depth, depth_pair, is_depth_pair, is_rotating_machine, rotation, rotation_sum, zero_sizes,
)
from textmovers.level.levels import level_size, level_turn
from textmovers.machine.known import counter
from textmovers.machine.machines import Machine
from textmovers.move.moves import idle, move_of
from textmovers.move.words import is_word, joined_word, led, undone_word, word_move

STILL = Machine(3, {"e": ((0, 1, 2), ("e", "e", "e"))})


def rotating_machines(seed, many, sizes=(1, 2, 3, 4), letters=(2, 3)):
    """Rotating machines by chance."""
    chance = random.Random(seed)
    found = []
    for _ in range(many):
        count_of, names = chance.choice(letters), "abcdfghi"[:chance.choice(sizes)]
        found.append(Machine(count_of, {
            name: (tuple((letter + shift) % count_of for letter in range(count_of)),
                   tuple(chance.choice(names) for _ in range(count_of)))
            for name, shift in ((name, chance.randrange(count_of)) for name in names)
        }))
    return found


MACHINES = [ODD, GRAY, LAMP, FOLDED, LONG, FLIP, STILL, counter(3), *rotating_machines(1, 24)]
EIGHT = told_machine("machine of 2 letters: a 10 b c, b 01 d e, c 10 f g, d 10 h a, e 01 a c, f 10 e e, g 01 h h, h 10 a b")


def random_word(chance, machine, pairs=4, most=3):
    """A word of some pairs by chance, with numbers below 0, too."""
    told = [(chance.choice(machine.states), chance.choice([-1, 1]) * chance.randint(1, most)) for _ in range(pairs)]
    return tuple(told[:chance.randint(0, pairs)])


def model_chosen(number, many):
    """n * (n - 1) * .. * (n - r + 1) / r!"""
    return math.prod(number - at for at in range(many)) // math.factorial(many)


def model_count(word, pattern):
    """The sum over all ways to cut the pattern into as many pieces as there are pairs."""
    if not word:
        return 1 if not pattern else 0
    total = 0
    for cuts in itertools.combinations_with_replacement(range(len(pattern) + 1), len(word) - 1):
        ends = (0, *cuts, len(pattern))
        product = 1
        for (state, number), start, end in zip(word, ends, ends[1:]):
            piece = pattern[start:end]
            product *= model_chosen(number, len(piece)) if set(piece) <= {state} else 0
        total += product
    return total


def patterns(machine, most):
    """All patterns of at most so many states."""
    return [pattern for many in range(most + 1) for pattern in itertools.product(machine.states, repeat=many)]


def model_rotation(machine, word, text):
    """By how much the first letter behind the text is led on."""
    come = led(machine, word, text + "0")
    return int(come[-1])


class Rotating(Case):

    def test_two_or_three_letters_and_rotations(self):
        for machine in MACHINES:
            self.assertIs(is_rotating_machine(machine), True)
        for machine in (HANOI, counter(4), Machine(4, {"e": ((0, 1, 2, 3), ("e",) * 4)}),
                        told_machine("machine of 3 letters: a 120 a b b, b 021 a a a"),
                        told_machine("machine of 3 letters: b 210 b b b"), told_machine("machine of 4 letters: b 1230 b b b b")):
            self.assertIs(is_rotating_machine(machine), False)

    def test_each_turn_alone(self):
        for letters in (2, 3):
            for turn in itertools.permutations(range(letters)):
                machine = Machine(letters, {"a": (turn, ("a",) * letters)})
                told = turn in [tuple((letter + by) % letters for letter in range(letters)) for by in range(letters)]
                self.assertIs(is_rotating_machine(machine), told)

    def test_wrong_arguments(self):
        hold_refusals(self, is_rotating_machine, ([ODD], machine_place))


class Counts(Case):

    def test_the_sum_over_all_cuts(self):
        chance = random.Random(1)
        for machine in (ODD, GRAY, LAMP, EIGHT, counter(3)):
            for _ in range(40):
                word = random_word(chance, machine)
                pattern = tuple(chance.choice(machine.states[:3]) for _ in range(chance.randint(0, 5)))
                self.assertEqual(count(machine, word, pattern), model_count(word, pattern))

    def test_one_pair(self):
        for number in (-7, -3, -1, 1, 2, 5, 200):
            for many in range(13):
                told = count(ODD, (("a", number),), ("a",) * many)
                self.assertEqual(told, model_chosen(number, many))
                self.assertIs(type(told), int)
            self.assertEqual(count(ODD, (("a", number),), ("e",)), 0)
            self.assertEqual(count(ODD, (("a", number),), ("a", "e")), 0)
        self.assertEqual(count(ODD, (("a", -1),), ("a",) * 5), -1)
        self.assertEqual(count(ODD, (("a", 2),), ("a",) * 3), 0)
        self.assertEqual(count(ODD, (("a", 200),), ("a",) * 12), math.comb(200, 12))

    def test_the_empty_pattern_and_the_empty_word(self):
        for machine in MACHINES:
            self.assertEqual(count(machine, (), ()), 1)
            self.assertEqual(count(machine, ((machine.states[0], -3),), ()), 1)
            for pattern in patterns(machine, 2)[1:]:
                self.assertEqual(count(machine, (), pattern), 0)

    def test_scattered_not_side_by_side(self):
        word = (("a", 1), ("b", 1), ("a", 1), ("b", 1))
        self.assertEqual([count(GRAY, word, pattern) for pattern in (("a", "b"), ("b", "a"), ("a", "a"), ("a", "b", "b"))], [3, 1, 1, 1])
        # It is the word that counts, not its move; pairs of one state side by side are as one pair.
        self.assertEqual(count(GRAY, (("a", 1), ("a", 1)), ("a", "a")), 1)
        self.assertEqual(count(GRAY, (("e", 4),), ("e", "e")), 6)
        self.assertEqual(count(GRAY, (("a", 2), ("a", -2)), ("a", "a")), 0)

    def test_joined_words(self):
        chance = random.Random(2)
        for machine in (GRAY, EIGHT, counter(3)):
            for _ in range(20):
                one, other = random_word(chance, machine), random_word(chance, machine)
                pattern = tuple(chance.choice(machine.states[:2]) for _ in range(4))
                told = sum(count(machine, one, pattern[:at]) * count(machine, other, pattern[at:]) for at in range(5))
                self.assertEqual(count(machine, (*one, *other), pattern), told)
                self.assertEqual(count(machine, joined_word(machine, one, other), pattern), told)

    def test_undone_words(self):
        chance = random.Random(3)
        for _ in range(20):
            word = random_word(chance, GRAY)
            both = (*word, *undone_word(GRAY, word))
            for pattern in patterns(GRAY, 4):
                self.assertEqual(count(GRAY, both, pattern), 0 if pattern else 1)

    def test_patterns_of_twelve_states(self):
        word = tuple((state, 1) for state in "abab" * 50)
        self.assertEqual(count(GRAY, word, ("a", "b") * 6), math.comb(100 + 6, 12))
        self.assertEqual(count(GRAY, (("a", 100), ("b", 100)), ("a",) * 6 + ("b",) * 6), math.comb(100, 6) ** 2)
        self.refused(InvalidOperation, count, GRAY, word, ("a",) * 13)
        self.refused(InvalidOperation, count, GRAY, (), ("e",) * 13)

    def test_wrong_arguments(self):
        def pattern_place(args, at):
            value = args[at]
            right = type(value) is tuple and len(value) <= 12 and all(part in args[0] for part in value)
            return None if right else InvalidOperation("")
        for machine in (GRAY, HANOI, counter(4)):
            wrong = None if machine is GRAY else InvalidOperation("")
            hold_refusals(self, count, ([machine], machine_place), ([(), (("a", 2),)], word_place), ([(), ("a", "e")], pattern_place),
                          then=lambda args: None if is_rotating_machine(args[0]) else InvalidOperation(""),
                          extra=[("a", ("a",)), ["a"], "ae", {"a": 1}, ("a", "x"), (("a",),), ("a", None)])
            if wrong:
                self.refused_with(wrong, count, machine, (("a", 2),), ("a",))


class Rotations(Case):

    def test_the_next_letter(self):
        chance = random.Random(4)
        for machine in MACHINES:
            for text in short_texts(machine.letters, 3):
                word = random_word(chance, machine)
                told = rotation(machine, word, text)
                self.assertIs(type(told), int)
                self.assertEqual(told, model_rotation(machine, word, text))

    def test_long_texts_and_words(self):
        chance = random.Random(5)
        for machine in (ODD, LAMP, EIGHT, counter(3)):
            word = tuple((chance.choice(machine.states), chance.choice((1, -1))) for _ in range(200))
            for text in random_texts(6, machine.letters, (50, 199)):
                self.assertEqual(rotation(machine, word, text), model_rotation(machine, word, text))
            for text in random_texts(7, machine.letters, (200,)):
                self.assertIn(rotation(machine, word, text), range(machine.letters))

    def test_the_sum_of_both_rests(self):
        chance = random.Random(6)
        for machine in MACHINES[:16]:
            one, other = random_word(chance, machine), random_word(chance, machine)
            for text in all_texts(machine.letters, 2):
                told = rotation(machine, one, text) + rotation(machine, other, led(machine, one, text))
                self.assertEqual(rotation(machine, (*one, *other), text), told % machine.letters)

    def test_wrong_arguments(self):
        for machine in (GRAY, counter(3), HANOI):
            hold_refusals(self, rotation, ([machine], machine_place), ([(), (("a", 2),)], word_place), (["", "01"], text_place),
                          then=lambda args: None if is_rotating_machine(args[0]) else InvalidOperation(""))


class Sums(Case):

    def test_the_counts_tell_the_rotation(self):
        chance = random.Random(7)
        for machine in MACHINES:
            for text in short_texts(machine.letters, 3 if machine.letters == 2 else 2):
                try:
                    told = rotation_sum(machine, text)
                except TooMany as error:
                    self.assertEqual(error.limit, 400)
                    continue
                self.assertEqual(list(told), sorted(told))
                self.assertLessEqual(max(map(len, told), default=0), machine.letters ** len(text))
                for pattern, number in told.items():
                    self.assertIs(type(pattern), tuple)
                    self.assertIs(type(number), int)
                    self.assertIn(number, range(1, machine.letters))
                for _ in range(6):
                    word = random_word(chance, machine, 6, 4)
                    if all(len(pattern) <= 12 for pattern in told):
                        total = sum(number * count(machine, word, pattern) for pattern, number in told.items())
                        self.assertEqual(total % machine.letters, model_rotation(machine, word, text))

    def test_just_one_sum(self):
        # For all patterns: the least ones, pattern by pattern, from words that have them and no longer ones.
        for machine in (ODD, GRAY, LAMP, FOLDED, counter(3), *rotating_machines(9, 8, (2,))):
            for text in short_texts(machine.letters, 1):
                told, model = rotation_sum(machine, text), {}
                for pattern in patterns(machine, machine.letters ** len(text)):
                    word = tuple((state, 1) for state in pattern)
                    known = sum(number * model_count(word, one) for one, number in model.items())
                    left = (model_rotation(machine, word, text) - known) % machine.letters
                    if left:
                        model[pattern] = left
                self.assertEqual(told, model)

    def test_counters(self):
        for length in range(5):
            told = rotation_sum(ODD, "1" * length)
            self.assertEqual(max(map(len, told)), 2 ** length)
            self.assertEqual(rotation_sum(ODD, "0" * length), {("a",) * 2 ** length: 1})
        self.assertEqual(rotation_sum(STILL, "01"), {})
        self.assertEqual(rotation_sum(counter(3), "2"), {("a",): 1, ("a", "a"): 2, ("a", "a", "a"): 1})

    def test_so_many_texts_and_patterns(self):
        rotation_sum(ODD, "0101"), rotation_sum(counter(3), "01")
        for machine, text in ((ODD, "00000"), (EIGHT, "00000"), (ODD, "0" * 200), (counter(3), "000"), (counter(3), "1" * 100)):
            self.refused_with(TooMany(16), rotation_sum, machine, text)
        for text in ("000", "0101", "1111"):
            self.refused_with(TooMany(400), rotation_sum, EIGHT, text)
        # Sums near the bound, on both sides of it.
        sizes = {}
        for machine in rotating_machines(11, 160, (3, 4, 5, 6), (2,)):
            for text in all_texts(2, 2):
                try:
                    sizes.setdefault(len(rotation_sum(machine, text)), machine)
                except TooMany as error:
                    self.assertEqual(error.limit, 400)
                    sizes.setdefault(401, machine)
        self.assertGreater(max(size for size in sizes if size < 401), 300)
        self.assertIn(401, sizes)

    def test_wrong_arguments(self):
        def then(args):
            if not is_rotating_machine(args[0]):
                return InvalidOperation("")
            return TooMany(16) if args[0].letters ** len(args[1]) > 16 else None
        for machine in (GRAY, counter(3), HANOI):
            hold_refusals(self, rotation_sum, ([machine], machine_place), (["", "01"], text_place), then=then)


class Same(Case):

    def test_against_the_counts_of_all_patterns(self):
        chance = random.Random(8)
        seen = {True: 0, False: 0}
        for machine in (ODD, GRAY, LAMP, counter(3), told_machine("machine of 3 letters: a 120 a b a, b 201 b b a")):
            for _ in range(60):
                one = random_word(chance, machine, 3)
                other = chance.choice([one, random_word(chance, machine, 3), (*one, *random_word(chance, machine, 1) * 3),
                                       (*one, ("a", 4), *undone_word(machine, one)), (*one[::-1],)])
                for most in range(5):
                    told = all(
                        (model_count(one, pattern) - model_count(other, pattern)) % machine.letters == 0
                        for pattern in patterns(machine, most) if most < 4 or len(set(pattern)) < 3
                    )
                    self.assertIs(are_same(machine, one, other, most), told)
                    seen[told] += 1
        self.assertGreater(min(seen.values()), 150)

    def test_powers(self):
        for letters in (2, 3):
            machine = counter(letters)
            for number in range(1, 65):
                for most in range(9):
                    told = all(math.comb(number, many) % letters == 0 for many in range(1, most + 1))
                    self.assertIs(are_same(machine, (("a", number),), (), most), told)
        self.assertIs(are_same(ODD, (("a", 1),), (("a", -1),), 1), True)
        self.assertIs(are_same(ODD, (("a", 1),), (("a", -1),), 2), False)
        self.assertIs(are_same(GRAY, (("e", 1),), (), 0), True)
        self.assertIs(are_same(GRAY, (("e", 1),), (), 1), False)

    def test_commutators(self):
        # Each commutator with one state more has no counts of one state more.
        word = (("a", 1),)
        for most in range(5):
            self.assertIs(are_same(LAMP, word, (), most), True)
            self.assertIs(are_same(LAMP, word, (), most + 1), False)
            other = (("b", 1),)
            word = (*undone_word(LAMP, word), *undone_word(LAMP, other), *word, *other)

    def test_so_many_patterns(self):
        for many, most in ((1, 8), (2, 8), (3, 6), (4, 5), (5, 4), (7, 4), (8, 3)):
            one = tuple((state, 1) for state in EIGHT.states[:many])
            self.assertLessEqual(sum(many ** size for size in range(1, most + 1)), 3000)
            self.assertIs(are_same(EIGHT, one, one, most), True)
            self.assertIs(are_same(EIGHT, one, one[:-1], most), False)
            if most < 8:
                self.assertGreater(sum(many ** size for size in range(1, most + 2)), 3000)
                self.refused_with(TooMany(3000), are_same, EIGHT, one, (), most + 1)
                self.refused_with(TooMany(3000), are_same, EIGHT, one[:1], one[1:], most + 1)
                self.refused_with(TooMany(3000), are_same, EIGHT, one, one, 8)
        # Only the states that stand in the words count; those that come to nothing stand there, too.
        self.assertIs(are_same(EIGHT, (), (), 8), True)
        self.assertIs(are_same(EIGHT, (("a", 64),), (("a", 128),), 8), True)
        one = (("a", 1), ("a", -1), ("b", 1), ("b", -1), ("c", 1), ("c", -1))
        self.assertIs(are_same(EIGHT, one, (), 6), True)
        self.refused_with(TooMany(3000), are_same, EIGHT, one, (), 7)

    def test_long_words_come_to_an_end(self):
        chance = random.Random(9)
        for many, most in ((2, 8), (3, 6), (8, 3)):
            one = tuple((chance.choice(EIGHT.states[:many]), chance.choice((1, -1))) for _ in range(200))
            other = tuple((chance.choice(EIGHT.states[:many]), chance.choice((1, -1))) for _ in range(200))
            self.assertIs(are_same(EIGHT, one, other, most), False)
            self.assertIs(are_same(EIGHT, one, one, most), True)

    def test_words_with_equal_counts_lead_alike(self):
        chance = random.Random(10)
        for machine in MACHINES[:14]:
            length = 3 if machine.letters == 2 else 2
            most = depth(machine, length)
            for _ in range(30):
                one, other = random_word(chance, machine), random_word(chance, machine)
                other = chance.choice([other, (*one, *other * 4), (*one, *other * 3)])
                if most <= 8 and are_same(machine, one, other, min(most, 4) if len(machine) > 3 else most):
                    if len(machine) <= 3 or most <= 4:
                        for text in all_texts(machine.letters, length):
                            self.assertEqual(led(machine, one, text), led(machine, other, text))

    def test_wrong_arguments(self):
        for machine in (GRAY, counter(3), HANOI):
            hold_refusals(self, are_same, ([machine], machine_place), ([(), (("a", 2),)], word_place), ([(), (("e", 1),)], word_place),
                          ([0, 3, 8], number_place(0, 8)),
                          then=lambda args: None if is_rotating_machine(args[0]) else InvalidOperation(""))
        self.refused(InvalidOperation, are_same, HANOI, tuple((state, 1) for state in "abce"), (), 8)


def model_sizes(machine, length, most):
    """For each d how many level turns are made by words without counts of 1 to d states: by all words, step by step."""
    letters = machine.letters
    sizes = []
    for short in range(most + 1):
        every = patterns(machine, short)
        still = (tuple(1 if not pattern else 0 for pattern in every), tuple(range(letters ** length)))
        order, met = [still], {still}
        turns = {state: level_turn(move_of(machine, state), length) for state in machine}
        places = {pattern: place for place, pattern in enumerate(every)}
        for counts, turn in order:
            for state in machine:
                longer = tuple(
                    (number + (counts[places[pattern[:-1]]] if pattern[-1:] == (state,) else 0)) % letters
                    for number, pattern in zip(counts, every)
                )
                come = (longer, tuple(turns[state][at] for at in turn))
                if come not in met:
                    met.add(come)
                    order.append(come)
        sizes.append(len([turn for counts, turn in order if counts == still[0]]))
    return sizes


class Depths(Case):

    def test_against_all_words(self):
        two = [told_machine("machine of 2 letters: a 10 b a, b 01 a b"), told_machine("machine of 2 letters: a 10 a b, b 10 b a"),
               told_machine("machine of 2 letters: a 01 b b, b 10 a b"), ODD, LAMP, FLIP]
        three = [told_machine("machine of 3 letters: a 120 a b b, b 012 b a b"), counter(3),
                 told_machine("machine of 3 letters: a 120 b b a, b 201 a b a")]
        for machine, length, most in [(one, length, 3) for one in two for length in (1, 2, 3)] + [(one, 2, 2) for one in three]:
            told = zero_sizes(machine, length)
            model = model_sizes(machine, length, most)
            self.assertEqual((*told, *[1] * 10)[:most + 1], tuple(model))

    def test_sizes(self):
        for machine in MACHINES:
            for length in range(4 if machine.letters == 2 else 3):
                told = zero_sizes(machine, length)
                self.assertIs(type(told), tuple)
                self.assertEqual(depth(machine, length), len(told) - 1)
                self.assertEqual(told[0], level_size(machine, length))
                self.assertEqual(told.index(1), len(told) - 1)
                self.assertTrue(all(one % other == 0 for one, other in zip(told, told[1:])))
                self.assertLessEqual(len(told) - 1, machine.letters ** max(length - 1, 0))

    def test_no_more_than_the_sums_ask_for(self):
        for machine in MACHINES:
            longest = 0
            for length in range(4 if machine.letters == 2 else 3):
                self.assertLessEqual(depth(machine, length), longest)
                try:
                    sums = [rotation_sum(machine, text) for text in all_texts(machine.letters, length)]
                except TooMany:
                    break
                longest = max([longest, *[len(pattern) for one in sums for pattern in one]])

    def test_never_falls(self):
        for machine in MACHINES:
            depths = [depth(machine, length) for length in range(5 if machine.letters == 2 else 4)]
            self.assertEqual(depths, sorted(depths))
            self.assertEqual(depths[0], 0)

    def test_counters_and_still_machines(self):
        self.assertEqual([depth(ODD, length) for length in range(5)], [0, 1, 2, 4, 8])
        self.assertEqual([depth(counter(3), length) for length in range(4)], [0, 1, 3, 9])
        self.assertEqual([depth(STILL, length) for length in range(4)], [0] * 4)
        self.assertEqual([zero_sizes(STILL, length) for length in range(4)], [(1,)] * 4)
        self.assertEqual(zero_sizes(counter(3), 3), (27, 9, 9, 3, 3, 3, 3, 3, 3, 1))
        # States that turn one letter each, further on and further on.
        late = told_machine("machine of 2 letters: a 01 b b, b 01 c c, c 10 e e, e 01 e e")
        self.assertEqual([zero_sizes(late, length) for length in range(5)], [(1,), (2, 1), (4, 1), (8, 1), (8, 1)])

    def test_all_turns_of_a_tree(self):
        full = told_machine("machine of 2 letters: a 10 e e, b 01 a e, c 01 b e, d 01 c e, e 01 e e")
        told = zero_sizes(full, 4)
        self.assertEqual((told[0], told[-2:], len(told)), (2 ** 15, (2, 1), 9))
        whole = told_machine("machine of 3 letters: a 120 e e e, b 012 a e e, c 012 b e e, e 012 e e e")
        told = zero_sizes(whole, 3)
        self.assertEqual((told[0], told[-2:], len(told)), (3 ** 13, (3, 1), 10))

    def test_so_many_texts(self):
        for machine, most in ((ODD, 4), (EIGHT, 4), (counter(3), 3), (STILL, 3)):
            depth(machine, most), zero_sizes(machine, most)
            for length in (most + 1, 100, 200):
                self.refused_with(TooMany(27), depth, machine, length)
                self.refused_with(TooMany(27), zero_sizes, machine, length)

    def test_wrong_arguments(self):
        def then(args):
            if not is_rotating_machine(args[0]):
                return InvalidOperation("")
            return TooMany(27) if args[0].letters ** args[1] > 27 else None
        for machine in (GRAY, counter(3), HANOI, counter(4)):
            for call in (depth, zero_sizes):
                hold_refusals(self, call, ([machine], machine_place), ([0, 2, 200], number_place(0, 200)), then=then)


class Pairs(Case):

    def test_pairs_are_judged_right(self):
        for machine in [*MACHINES, EIGHT]:
            for length in range(4 if machine.letters == 2 else 3):
                deep = depth(machine, length)
                for most in range(9):
                    pair = depth_pair(machine, length, most)
                    if most >= deep:
                        self.assertIsNone(pair)
                        continue
                    self.assertIs(is_depth_pair(machine, length, most, pair), True)
                    one, other = pair
                    self.assertTrue(is_word(machine, one) and is_word(machine, other))
                    self.assertTrue(are_same(machine, one, other, most))
                    every = all_texts(machine.letters, length)
                    self.assertTrue(any(led(machine, one, text) != led(machine, other, text) for text in every))

    def test_judged_by_plain_words(self):
        chance = random.Random(12)
        seen = {True: 0, False: 0}
        for machine in (ODD, GRAY, LAMP, counter(3), *rotating_machines(13, 6)):
            length = 3 if machine.letters == 2 else 2
            for _ in range(25):
                one, other = random_word(chance, machine, 3), random_word(chance, machine, 1)
                pair = (one, chance.choice([other, (*one, *other * 2), (*one, *other * 3), one[::-1]]))
                for most in range(5):
                    same = all(
                        (model_count(pair[0], pattern) - model_count(pair[1], pattern)) % machine.letters == 0
                        for pattern in patterns(machine, min(most, 3))
                    ) if len(pair[1]) < 8 else are_same(machine, *pair, min(most, 3))
                    unlike = any(led(machine, pair[0], text) != led(machine, pair[1], text) for text in all_texts(machine.letters, length))
                    told = same and unlike and most < depth(machine, length)
                    if most <= 3:
                        self.assertIs(is_depth_pair(machine, length, most, pair), told)
                        seen[told] += 1
        self.assertGreater(min(seen.values()), 40)

    def test_long_patterns_need_not_be_counted(self):
        pair = (tuple((state, 1) for state in EIGHT.states), ())
        for most in range(4, 9):
            self.assertIs(is_depth_pair(EIGHT, 3, most, pair), False)
            self.assertIsNone(depth_pair(EIGHT, 3, most))

    def test_values_of_every_kind(self):
        right = ((("a", 2),), ())
        self.assertIs(is_depth_pair(ODD, 2, 1, right), True)
        near = [right[::-1], list(right), right[:1], (*right, ()), ((("a", 2),), None), ((("a", True),), ()), ([("a", 2)], ()),
                (((("a"), 2),), []), ((("a", 201),), ()), ((("a", 2 * BIG),), ()), ((("q", 2),), ()), ((), ()), ((["a", 2],), ()),
                ((("a", -2),), ()), ((("a", 6), ("e", 2)), ()), ((("a", 3),), (("a", 1),)), ((("a", 1),), (("a", -1),)),
                ((("a", 2), ("e", 1)), ()), ((("a", 4),), ()), "ab", {}, ()]
        told = [is_depth_pair(ODD, 2, 1, value) for value in near]
        self.assertEqual([value for value, one in zip(near, told) if one],
                         [right[::-1], ((("a", -2),), ()), ((("a", 6), ("e", 2)), ()), ((("a", 3),), (("a", 1),)),
                          ((("a", 1),), (("a", -1),))])
        for value in VALUES:
            self.assertIs(is_depth_pair(ODD, 2, 1, value), False)
            self.assertIs(is_depth_pair(ODD, 2, 8, value), False)
            self.assertIs(is_depth_pair(ODD, 0, 0, value), False)

    def test_so_many_texts(self):
        for machine, most in ((ODD, 3), (EIGHT, 3), (counter(3), 2), (STILL, 2)):
            depth_pair(machine, most, 0), is_depth_pair(machine, most, 8, None)
            for length in (most + 1, 100, 200):
                self.refused_with(TooMany(9), depth_pair, machine, length, 8)
                self.refused_with(TooMany(9), is_depth_pair, machine, length, 0, None)

    def test_wrong_arguments(self):
        def then(args):
            if not is_rotating_machine(args[0]):
                return InvalidOperation("")
            return TooMany(9) if args[0].letters ** args[1] > 9 else None
        for machine in (GRAY, counter(3), HANOI, counter(4)):
            places = [([machine], machine_place), ([0, 2], number_place(0, 200)), ([0, 1, 8], number_place(0, 8))]
            hold_refusals(self, depth_pair, *places, then=then)
            hold_refusals(self, is_depth_pair, *places, ([None, ((), ())], any_place), then=then)

    def test_nothing_is_changed(self):
        told = str(LAMP)
        first = [depth_pair(LAMP, 3, 2), rotation_sum(LAMP, "01"), zero_sizes(LAMP, 4)]
        first[1].clear()
        self.assertEqual([depth_pair(LAMP, 3, 2), zero_sizes(LAMP, 4)], [first[0], first[2]])
        self.assertNotEqual(rotation_sum(LAMP, "01"), {})
        self.assertEqual(str(LAMP), told)
