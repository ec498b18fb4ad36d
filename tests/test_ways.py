"""The fewest steps between texts."""

import itertools
import random

from refusals import any_place, hold_refusals, machine_place, number_place, same_length_place, text_place
from support import (
    BIG, FLIP, FOLDED, GRAY, HANOI, LAMP, LONG, ODD, VALUES, WIDE, Case, all_texts, quiet_machines, random_texts, short_texts,
    told_machine,
)
from test_levels import JUST, OVER, OVER_AT, OVER_BEHIND
from textmovers.errors import InvalidMachine, InvalidText, Loud, TooMany
from textmovers.grow.busy import loud_state
from textmovers.machine.known import counter
from textmovers.machine.machines import Machine
from textmovers.move.moves import move_of
from textmovers.move.words import is_word, led, step_number
from textmovers.way.ways import end_ways, ends, fewest, is_short_word, short_word

KNOWN = [ODD, GRAY, HANOI, FOLDED, FLIP, counter(3), counter(4)]
STILL = Machine(2, {"e": ((0, 1), ("e", "e"))})
# A state that leaves the first letter and is busy behind both, and states that are alike.
OTHERS = [
    STILL,
    told_machine("machine of 2 letters: a 01 b c, b 10 e b, c 10 c e, e 01 e e"),
    told_machine("machine of 3 letters: a 120 e e b, b 012 c e e, c 021 e a e, d 120 e e b, e 012 e e e"),
]


def some_machines(seed, many):
    found = [*KNOWN, *OTHERS]
    for machine in quiet_machines(seed, many):
        try:
            ends(machine, 6)
            found.append(machine)
        except TooMany:
            pass
    return found


MACHINES = some_machines(61, 60)


def length_of(machine):
    return {2: 5, 3: 4, 4: 3}[machine.letters]


def steps_of_all(machine):
    """The moves of all steps."""
    return [one for state in machine for one in (move_of(machine, state), ~move_of(machine, state))]


def model_ends(machine, length):
    """The texts behind which some step has a rest that is not idle."""
    return tuple(text for text in all_texts(machine.letters, length)
                 if any(not step.rest(text).is_idle for step in steps_of_all(machine)))


def model_costs(machine, text, quiet=False):
    """For each text that is reached how many steps lead there, perhaps by those alone whose rests are idle."""
    steps, costs, order = steps_of_all(machine), {text: 0}, [text]
    for one in order:
        for step in steps:
            if quiet and not step.rest(one).is_idle:
                continue
            come = step(one)
            if come not in costs:
                costs[come] = costs[one] + 1
                order.append(come)
    return costs


class Ends(Case):

    def test_against_all_texts(self):
        for machine in MACHINES:
            for length in range(length_of(machine)):
                told = ends(machine, length)
                self.assertIs(type(told), tuple)
                self.assertEqual(told, model_ends(machine, length))

    def test_ends_of_great_lengths(self):
        self.assertEqual(ends(HANOI, 200), ("0" * 200, "1" * 200, "2" * 200))
        self.assertEqual(ends(ODD, 200), ("0" * 200, "1" * 200))
        self.assertEqual(ends(STILL, 0), ())
        self.assertEqual(ends(FLIP, 0), ("",))
        self.assertEqual(ends(FLIP, 1), ())
        self.assertEqual(ends(FLIP, 200), ())
        for machine in MACHINES:
            for end in ends(machine, 30):
                self.assertTrue(any(not step.rest(end).is_idle for step in steps_of_all(machine)))

    def test_so_many_ends(self):
        self.assertEqual(len(ends(JUST, 4)), 24)
        self.assertEqual(len(ends(JUST, 200)), 24)
        for machine, length in ((OVER, 4), (OVER_AT, 3), (OVER_BEHIND, 5)):
            text = "0" * (length - 1)
            self.assertLessEqual(len(ends(machine, length - 1)), 24)
            end_ways(machine, length - 1), fewest(machine, text, text)
            for more in (length, length + 1, 200):
                self.refused_with(TooMany(24), ends, machine, more)
                self.refused_with(TooMany(24), end_ways, machine, more)
                for call in (fewest, short_word):
                    self.refused_with(TooMany(24), call, machine, "0" * more, "1" * more)
                    self.refused_with(TooMany(24), call, machine, "0" * more, "0" * more)
                self.refused_with(TooMany(24), is_short_word, machine, "0" * more, "0" * more, ())

    def test_wrong_arguments(self):
        def then(args):
            state = loud_state(args[0])
            return None if state is None else Loud(state)
        for machine in (HANOI, LAMP, LONG):
            for call in (ends, end_ways):
                hold_refusals(self, call, ([machine], machine_place), ([0, 3, 200], number_place(0, 200)), then=then)


class EndWays(Case):

    def test_against_all_quiet_neighbours(self):
        unlike = set()
        for machine in MACHINES:
            for length in range(length_of(machine)):
                told = end_ways(machine, length)
                every = ends(machine, length)
                self.assertEqual(list(told), list(itertools.combinations(every, 2)))
                for one in every[:4]:
                    costs = model_costs(machine, one, True)
                    for other in every:
                        if one < other:
                            self.assertEqual(told[one, other], costs.get(other))
                            unlike.add(costs.get(other))
        self.assertGreater(len(unlike), 12)
        self.assertIn(None, unlike)

    def test_great_lengths(self):
        self.assertEqual(end_ways(HANOI, 100), {
            (one * 100, other * 100): 2 ** 100 - 1 for one, other in (("0", "1"), ("0", "2"), ("1", "2"))
        })
        self.assertEqual(end_ways(ODD, 200), {("0" * 200, "1" * 200): 2 ** 200 - 1})
        self.assertEqual(end_ways(FLIP, 100), {})
        self.assertEqual(len(end_ways(JUST, 200)), 24 * 23 // 2)

    def test_both_ways_put_together(self):
        for machine in MACHINES[:30]:
            told = end_ways(machine, 40)
            every = ends(machine, 40)
            for one, other, third in itertools.combinations(every[:7], 3):
                sides = [told[one, other], told[other, third], told[one, third]]
                if None not in sides:
                    self.assertLessEqual(2 * max(sides), sum(sides))
                else:
                    self.assertNotEqual(sides.count(None), 1)


class Fewest(Case):

    def test_against_all_texts(self):
        chance = random.Random(1)
        unlike = set()
        for machine in MACHINES:
            for length in range(length_of(machine)):
                every = all_texts(machine.letters, length)
                for text in chance.sample(every, min(len(every), 2)):
                    costs = model_costs(machine, text)
                    for other in chance.sample(every, min(len(every), 8)):
                        told = fewest(machine, text, other)
                        self.assertEqual(told, costs.get(other))
                        unlike.add(told)
        self.assertGreater(len(unlike), 15)
        self.assertIn(None, unlike)

    def test_from_all_to_all(self):
        for machine, length in ((ODD, 5), (GRAY, 5), (HANOI, 3), (FOLDED, 5), (OTHERS[1], 5)):
            for text in all_texts(machine.letters, length):
                costs = model_costs(machine, text)
                for other in all_texts(machine.letters, length)[::3]:
                    self.assertEqual(fewest(machine, text, other), costs.get(other))

    def test_great_lengths(self):
        for length in (50, 100, 200):
            self.assertEqual(fewest(HANOI, "0" * length, "2" * length), 2 ** length - 1)
            self.assertEqual(fewest(ODD, "0" * length, "0" * (length - 1) + "1"), 2 ** (length - 1))
            self.assertEqual(fewest(ODD, "0" * length, "1" * length), 1)
            self.assertEqual(fewest(ODD, "0" * length, "10" * (length // 2)), (2 ** length - 1) // 3)
            self.assertEqual(fewest(ODD, "0" * length, "01" * (length // 2)), (2 ** length + 2) // 3)
            self.assertEqual(fewest(counter(3), "0" * length, "0" * (length - 1) + "1"), 3 ** (length - 1))
            self.assertIsNone(fewest(FLIP, "0" * length, "01" * (length // 2)))
            self.assertEqual(fewest(FLIP, "0" * length, "1" + "0" * (length - 1)), 1)
            # Gray's code has its turns one behind the other: the last letter alone is turned by half of them.
            self.assertEqual(fewest(GRAY, "0" * length, "0" * (length - 1) + "1"), 2 ** length - 1)

    def test_the_same_there_and_back(self):
        for machine in MACHINES[:15]:
            for one, other in zip(random_texts(2, machine.letters, (60, 200)), random_texts(3, machine.letters, (60, 200))):
                self.assertEqual(fewest(machine, one, other), fewest(machine, other, one))
                self.assertEqual(fewest(machine, one, one), 0)

    def test_one_letter_more(self):
        for machine in MACHINES[:25]:
            one, other = random_texts(4, machine.letters, (50,)) + random_texts(5, machine.letters, (50,))
            told = [fewest(machine, one[:length], other[:length]) for length in range(1, 51, 7)]
            known = [number for number in told if number is not None]
            self.assertEqual(known, sorted(known))
            self.assertEqual(known, told[:len(known)])

    def test_the_empty_text(self):
        for machine in (*MACHINES, WIDE):
            self.assertEqual(fewest(machine, "", ""), 0)
            self.assertEqual(short_word(machine, "", ""), ())

    def test_many_ends(self):
        chance = random.Random(6)
        one, other = ("".join(chance.choice("0123") for _ in range(100)) for _ in range(2))
        self.assertEqual(fewest(JUST, one, other), fewest(JUST, other, one))
        told = ends(JUST, 200)
        self.assertLessEqual(fewest(JUST, told[0], told[-1]) or 0, end_ways(JUST, 200)[told[0], told[-1]] or 10 ** 200)

    def test_wrong_arguments(self):
        def then(args):
            state = loud_state(args[0])
            return None if state is None else Loud(state)
        for machine in (HANOI, LAMP, LONG):
            right = ([machine], machine_place), (["00", "10"], text_place), (["00", "11"], same_length_place)
            for call in (fewest, short_word):
                hold_refusals(self, call, *right, then=then)
            hold_refusals(self, is_short_word, *right, ([None, ()], any_place), then=then)
        self.refused(InvalidText, fewest, HANOI, "00", "000")
        self.refused(InvalidText, fewest, LAMP, "00", "0")
        self.refused(InvalidMachine, fewest, None, "00", "0")


class Words(Case):

    def test_words_of_fewest_steps(self):
        chance = random.Random(7)
        for machine in MACHINES:
            for length in range(length_of(machine)):
                every = all_texts(machine.letters, length)
                for text, other in zip(chance.choices(every, k=3), chance.choices(every, k=3)):
                    many = fewest(machine, text, other)
                    if many is not None and many > 40:
                        self.refused_with(TooMany(40), short_word, machine, text, other)
                        continue
                    word = short_word(machine, text, other)
                    if many is None:
                        self.assertIsNone(word)
                        continue
                    self.assertIs(is_word(machine, word), True)
                    self.assertEqual(step_number(word), many)
                    self.assertEqual(led(machine, word, text), other)
                    self.assertIs(is_short_word(machine, text, other, word), True)

    def test_great_lengths(self):
        chance = random.Random(8)
        for machine in [*MACHINES[:18], JUST]:
            text = random_texts(9, machine.letters, (200,))[0]
            for text in (text, *ends(machine, 200)[:1]):
                word = tuple((chance.choice(machine.states), chance.choice((1, -1))) for _ in range(25))
                other = led(machine, word, text)
                found = short_word(machine, text, other)
                self.assertLessEqual(step_number(found), 25)
                self.assertEqual(led(machine, found, text), other)
                self.assertIs(is_short_word(machine, text, other, found), True)

    def test_forty_steps(self):
        for many in (39, 40, 41, 1000):
            text = "".join("01"[many >> at & 1] for at in range(200))
            if many <= 40:
                self.assertEqual(short_word(ODD, "0" * 200, text), (("a", many),))
                self.assertEqual(short_word(ODD, text, "0" * 200), (("a", -many),))
            else:
                self.refused_with(TooMany(40), short_word, ODD, "0" * 200, text)
                self.assertIs(is_short_word(ODD, "0" * 200, text, (("a", many),)), many == 41)
        self.assertIs(is_short_word(HANOI, "0" * 10, "2" * 10, short_word(HANOI, "00", "22")), False)
        self.assertIs(is_short_word(ODD, "0" * 8, "1" * 7 + "0", (("a", 127),)), True)
        self.assertIs(is_short_word(ODD, "0" * 8, "1" * 8, (("a", 200),)), False)

    def test_none(self):
        self.assertIsNone(short_word(FLIP, "00", "01"))
        for value in [*VALUES, (("a", 1),), ()]:
            self.assertIs(is_short_word(FLIP, "00", "01", value), False)

    def test_values_of_every_kind(self):
        right = (("a", 1), ("b", 1), ("c", 1))
        near = [right, right[::-1], list(right), (*right, ("e", 1)), right[:2], (("a", 1), ("b", 1), ("c", True)), (("a", 1), ("b", 1), ("c", 1.0)),
                (("a", 1), ("b", 1), ("c", -1)), (("a", -1), ("b", -1), ("c", -1)), (("a", 3), ("b", 1), ("c", 1)), (("a", 1), ("b", 1)),
                (("b", 3), ("c", 1)), (("a", BIG),), (("a", 0), *right), (("q", 1), *right[1:]), (["a", 1], *right[1:]), ("a", "b", "c"), "abc",
                (("c", 1), ("b", 1), ("a", 1))]
        told = [is_short_word(HANOI, "00", "22", value) for value in near if not isinstance(value, float)]
        self.assertEqual([value for value, one in zip(near, told) if one],
                         [right, (("a", 1), ("b", 1), ("c", -1)), (("a", -1), ("b", -1), ("c", -1))])
        for value in VALUES:
            self.assertIs(is_short_word(HANOI, "00", "22", value), False)
            self.assertIs(is_short_word(HANOI, "00", "00", value), value == ())
            self.assertIs(is_short_word(ODD, "00", "10", value), repr(value) == "(('a', 1),)")
        self.assertIs(is_short_word(HANOI, "00", "00", (("e", 1),)), False)
        self.assertIs(is_short_word(HANOI, "00", "00", (("a", 1), ("a", -1))), False)

    def test_every_word_of_few_steps(self):
        for machine, text in ((HANOI, "012"), (GRAY, "0110"), (FOLDED, "1010")):
            steps = [(state, sign) for state in machine for sign in (1, -1)]
            for word in itertools.product(steps, repeat=2):
                for other in short_texts(machine.letters, 1) + all_texts(machine.letters, len(text))[::5]:
                    if len(other) == len(text):
                        shown = led(machine, word, text) == other and fewest(machine, text, other) == 2
                        self.assertIs(is_short_word(machine, text, other, word), shown)

    def test_nothing_is_changed(self):
        told = str(HANOI)
        ways = end_ways(HANOI, 2)
        ways.clear()
        self.assertEqual(len(end_ways(HANOI, 2)), 3)
        self.assertEqual(short_word(HANOI, "012", "210"), short_word(HANOI, "012", "210"))
        self.assertEqual(str(HANOI), told)
