"""Texts that go on without end to the left."""

import itertools
import random

from refusals import hold_refusals, is_integer, number_place
from support import BIG, ODD, VALUES, Case, short_texts
from textmovers.base.letters import is_text
from textmovers.endless.texts import MAX_RING, MAX_TAIL, Endless
from textmovers.errors import InvalidNumber, InvalidText


def long_end(ring, tail, length):
    """The last letters of a ring, so often that there are enough, and a tail."""
    text = ring * (length // len(ring) + 1) + tail
    return text[len(text) - length:]


def told(endless):
    return endless.ring, endless.tail


def some_endless(seed, many, letters=2, rings=12, tails=40):
    """Endless texts by chance, with the parts that they are made of."""
    chance = random.Random(seed)
    found = []
    for _ in range(many):
        ring, tail = ("".join(chance.choice("0123"[:letters]) for _ in range(size))
                      for size in (chance.randint(1, rings), chance.randint(0, tails)))
        found.append((ring, tail, Endless(letters, ring, tail=tail)))
    return found


class LeastForms(Case):

    def test_all_short_rings_and_tails(self):
        every = [(ring, tail) for ring in short_texts(2, 5)[1:] for tail in short_texts(2, 4)]
        by_end = {}
        for ring, tail in every:
            # Two of them that part do so in a text of two rings and both tails.
            by_end.setdefault(long_end(ring, tail, 20), []).append((len(tail), len(ring), ring, tail))
        for group in by_end.values():
            least = min(group)
            for _, _, ring, tail in group:
                self.assertEqual(told(Endless(2, ring, tail=tail)), least[2:])

    def test_three_and_four_letters(self):
        for letters, most in ((3, 3), (4, 2)):
            every = [(ring, tail) for ring in short_texts(letters, most)[1:] for tail in short_texts(letters, 2)]
            by_end = {}
            for ring, tail in every:
                by_end.setdefault(long_end(ring, tail, 20), []).append((len(tail), len(ring), ring, tail))
            for group in by_end.values():
                for _, _, ring, tail in group:
                    self.assertEqual(told(Endless(letters, ring, tail=tail)), min(group)[2:])

    def test_no_equal_texts_and_no_letter_of_the_ring(self):
        for ring, tail, endless in some_endless(1, 300):
            for size in range(1, len(endless.ring)):
                self.assertFalse(len(endless.ring) % size == 0 and endless.ring == endless.ring[:size] * (len(endless.ring) // size))
            self.assertNotEqual(endless.tail[:1], endless.ring[0])
            self.assertEqual(endless.end(200), long_end(ring, tail, 200))
            self.assertEqual(told(Endless(2, endless.ring, tail=endless.tail)), told(endless))

    def test_all_twelve_letters_of_a_ring(self):
        self.assertEqual(told(Endless(2, "01" * 6, tail="01" * 20)), ("01", ""))
        self.assertEqual(told(Endless(2, "1" * 12, tail="1" * 39 + "0")), ("1", "0"))
        self.assertEqual(told(Endless(4, "012301230123", tail="0123" * 9 + "01")), ("2301", ""))
        self.assertEqual(told(Endless(2, "000000000001")), ("000000000001", ""))
        self.assertEqual(told(Endless(2, "000000000001", tail="0" * 12)), ("100000000000", "0"))

    def test_properties(self):
        for letters in (2, 3, 4):
            endless = Endless(letters, "10", tail="1")
            self.assertEqual((endless.letters, endless.ring, endless.tail), (letters, "01", ""))
            for name in ("letters", "ring", "tail"):
                with self.assertRaises(AttributeError):
                    setattr(endless, name, "0")
        self.assertEqual((MAX_RING, MAX_TAIL), (12, 40))


class Ends(Case):

    def test_ends(self):
        for ring, tail, endless in some_endless(2, 60, 3):
            for length in (0, 1, 2, 3, 5, 13, 39, 40, 41, 52, 53, 199, 200):
                self.assertEqual(endless.end(length), long_end(ring, tail, length))

    def test_put(self):
        chance = random.Random(3)
        for ring, tail, endless in some_endless(3, 60, 3):
            for size in (0, 1, 2, 7, 100, 200):
                text = "".join(chance.choice("012") for _ in range(size))
                longer = endless.put(text)
                self.assertEqual(longer.end(200), (endless.end(200) + text)[size:])
                self.assertEqual(longer.cut(size), endless)
                self.assertEqual(told(longer.cut(size)), told(endless))

    def test_cut(self):
        for ring, tail, endless in some_endless(4, 60, 2):
            for number in (0, 1, 2, len(tail), len(tail) + 1, len(tail) + len(ring), 100, 200):
                shorter = endless.cut(number)
                self.assertEqual(shorter.end(100), long_end(ring, tail, 100 + number)[:100])
                self.assertEqual(shorter.put(long_end(ring, tail, number)), endless)

    def test_longer_ones_than_may_be_passed(self):
        endless = Endless(2, "0" * 11 + "1")
        for _ in range(5):
            endless = endless.put("01" * 100)
        self.assertEqual((len(endless.ring), len(endless.tail)), (12, 999))
        self.assertEqual(endless.end(200), "01" * 100)
        for _ in range(5):
            endless = endless.cut(200)
        self.assertEqual(endless, Endless(2, "0" * 11 + "1"))
        # A ring that is put behind is none of the tail.
        self.assertEqual(told(Endless(2, "01").put("01" * 100)), ("01", ""))
        self.assertEqual(told(Endless(2, "01").put("01" * 99 + "00")), ("10", "0"))
        self.assertEqual(told(Endless(3, "0").put("0" * 200).put("1" * 200).cut(200)), ("0", ""))

    def test_nothing_is_changed(self):
        endless = Endless(2, "01", tail="1")
        endless.put("0"), endless.cut(2), endless.end(5)
        self.refused(InvalidText, endless.put, "2")
        self.assertEqual(str(endless), "(01)1")


class Comparisons(Case):

    def test_equal_if_all_ends_are(self):
        found = some_endless(5, 80, 2, 4, 3)
        for (_, _, one), (_, _, other) in itertools.product(found, repeat=2):
            same = one.end(40) == other.end(40)
            self.assertIs(one == other, same)
            self.assertIs(one != other, not same)
        self.assertIs(Endless(2, "0") == Endless(3, "0"), False)
        self.assertIs(Endless(2, "0") != Endless(3, "0"), True)

    def test_equal_to_no_other_value(self):
        for value in [*VALUES, "(0)", ("0", ""), (2, "0", "")]:
            self.assertIs(Endless(2, "0") == value, False)
            self.assertIs(Endless(2, "0") != value, True)

    def test_order(self):
        found = [one for letters in (2, 3) for _, _, one in some_endless(6, 40, letters, 3, 3)]
        for one, other in itertools.product(found, repeat=2):
            keys = [(each.letters, len(each.ring) + len(each.tail), each.ring, each.tail) for each in (one, other)]
            self.assertIs(one < other, keys[0] < keys[1])
            self.assertIs(one > other, keys[0] > keys[1])
        self.assertIs(Endless(2, "1") < Endless(2, "01"), True)
        self.assertIs(Endless(3, "0") < Endless(2, "01"), False)
        self.assertIs(Endless(2, "0", tail="1") < Endless(2, "01"), True)
        self.assertIs(Endless(2, "1", tail="0") < Endless(2, "01"), False)

    def test_order_with_other_values(self):
        for value in VALUES:
            with self.assertRaises(TypeError):
                Endless(2, "0") < value

    def test_strings(self):
        for ring, tail, endless in some_endless(7, 50, 4):
            self.assertEqual(str(endless), f"({endless.ring}){endless.tail}")

    def test_not_iterated_over(self):
        with self.assertRaises(TypeError):
            iter(Endless(2, "0"))


class Refused(Case):

    def test_made_of(self):
        def letters_place(args, at):
            return None if is_integer(args[at], 2, 4) else InvalidNumber(args[at])

        def part_place(low, high):
            return lambda args, at: (
                None if is_text(args[0], args[at]) and low <= len(args[at]) <= high else InvalidText("")
            )
        hold_refusals(self, lambda letters, ring, tail: Endless(letters, ring, tail=tail),
                      ([2, 3, 4], letters_place), (["0", "01"], part_place(1, 12)), (["", "1"], part_place(0, 40)), many=400,
                      extra=["0" * 12, "0" * 13, "0" * 40, "0" * 41])
        self.refused(InvalidText, Endless, 2, "")
        Endless(2, "0" * 12, tail="1" * 40)
        with self.assertRaises(TypeError):
            Endless(2, "0", "1")

    def test_methods(self):
        endless = Endless(2, "01", tail="1")
        self.assertIs(endless.letters, 2)
        for call in (endless.end, endless.cut):
            hold_refusals(self, call, ([0, 1, 200], number_place(0, 200)), many=0)
        for value in VALUES:
            if not is_text(2, value):
                self.refused(InvalidText, endless.put, value)
        self.refused_with(InvalidNumber(201), endless.end, 201)
        self.refused_with(InvalidNumber(-1), endless.cut, -1)
        self.refused_with(InvalidNumber(True), endless.cut, True)
        self.refused_with(InvalidNumber(BIG), endless.end, BIG)
        self.assertEqual(str(endless), "(01)1")
        self.assertNotEqual(endless, ODD)
