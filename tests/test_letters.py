"""Names, texts and turns, and the order of the texts."""

import inspect
import itertools
import re

from support import BIG, NO_LETTERS, VALUES, Case, all_texts, random_texts, turns
from textmovers.base import letters as module
from textmovers.base.letters import index_of, is_name, is_text, is_turn, text_at, texts
from textmovers.errors import InvalidNumber, InvalidText

ALL_LETTERS = (2, 3, 4)


class Names(Case):

    def test_constants(self):
        self.assertEqual((module.MAX_TEXT, module.MAX_STATES, module.MAX_RESTS), (200, 8, 60))

    def test_lengths(self):
        for many in range(12):
            with self.subTest(many=many):
                self.assertIs(is_name("a" * many), 1 <= many <= 8)

    def test_each_letter(self):
        for sign in "abcdefghijklmnopqrstuvwxyz":
            self.assertIs(is_name(sign), True)

    def test_other_signs_at_each_place(self):
        for name in ("a", "xyz", "abcdefgh"):
            for place in range(len(name)):
                for code in [*range(32, 127), 10]:
                    other = name[:place] + chr(code) + name[place + 1:]
                    with self.subTest(other=other):
                        self.assertIs(is_name(other), chr(code) in "abcdefghijklmnopqrstuvwxyz")

    def test_newline_behind(self):
        for name in ("a\n", "abcdefg\n", "abcdefgh\n", "\na"):
            self.assertIs(is_name(name), False)

    def test_all_kinds(self):
        for value in VALUES:
            with self.subTest(value=value):
                expected = type(value) is str and re.fullmatch("[a-z]{1,8}", value) is not None
                self.assertIs(is_name(value), expected)


class Texts(Case):

    def test_lengths(self):
        for many in ALL_LETTERS:
            for length in (0, 1, 199, 200, 201, 202, 3000):
                with self.subTest(many=many, length=length):
                    self.assertIs(is_text(many, "1" * length), length <= 200)

    def test_letters_that_are_none(self):
        for many in ALL_LETTERS:
            for code in [*range(32, 127), 10]:
                for text in (chr(code), "0" + chr(code), chr(code) + "1", "01" + chr(code) + "10"):
                    with self.subTest(many=many, text=text):
                        self.assertIs(is_text(many, text), chr(code) in "0123"[:many])

    def test_all_kinds(self):
        for many in ALL_LETTERS:
            for value in VALUES:
                with self.subTest(many=many, value=value):
                    expected = type(value) is str and len(value) <= 200 and set(value) <= set("0123"[:many])
                    self.assertIs(is_text(many, value), expected)


class Turns(Case):

    def test_all_tuples_of_small_numbers(self):
        for many in ALL_LETTERS:
            right = set(turns(many))
            for length in range(6):
                for value in itertools.product(range(-1, many + 1), repeat=length):
                    self.assertIs(is_turn(many, value), value in right, value)

    def test_great_numbers(self):
        for many in ALL_LETTERS:
            right = tuple(range(many))
            for place in range(many):
                for other in (BIG, -BIG, many, many + 1, -1, -many, 10 ** 60):
                    self.assertIs(is_turn(many, right[:place] + (other,) + right[place + 1:]), False)

    def test_true_and_false_are_no_numbers(self):
        for many in ALL_LETTERS:
            for turn in turns(many):
                for changed in ((False,), (True,), (False, True)):
                    value = tuple(bool(part) if part < 2 and bool(part) in changed else part for part in turn)
                    self.assertIs(is_turn(many, value), False)

    def test_other_kinds_inside(self):
        for part in (None, "1", (1,), [1], {}, (), [0, 1]):
            self.assertIs(is_turn(2, (0, part)), False)
            self.assertIs(is_turn(2, (part, 0)), False)
            self.assertIs(is_turn(3, (2, 0, part)), False)

    def test_lists_are_no_turns(self):
        for many in ALL_LETTERS:
            self.assertIs(is_turn(many, list(range(many))), False)
            self.assertIs(is_turn(many, {letter: letter for letter in range(many)}), False)

    def test_all_kinds(self):
        for many in ALL_LETTERS:
            for value in VALUES:
                with self.subTest(many=many, value=value):
                    expected = (
                        type(value) is tuple and all(type(part) is int for part in value)
                        and sorted(value) == list(range(many))
                    )
                    self.assertIs(is_turn(many, value), expected)


class NumbersOfLetters(Case):

    def test_letters_decide_first(self):
        for many in NO_LETTERS:
            for value in ("0", (0, 1), None, "x", BIG):
                with self.subTest(many=many, value=value):
                    self.refused_with(InvalidNumber(many), is_text, many, value)
                    self.refused_with(InvalidNumber(many), is_turn, many, value)
                    self.refused_with(InvalidNumber(many), index_of, many, value)
                    self.refused_with(InvalidNumber(many), text_at, many, value, value)
                    self.refused_with(InvalidNumber(many), text_at, many, 2, 0)
                    self.refused_with(InvalidNumber(many), lambda: next(texts(many, value)))
                    self.refused_with(InvalidNumber(many), lambda: next(texts(many, 1)))


class Order(Case):

    def test_all_texts_of_short_lengths(self):
        for many in ALL_LETTERS:
            for length in range(6):
                right = all_texts(many, length)
                with self.subTest(many=many, length=length):
                    self.assertEqual(list(texts(many, length)), right)
                    self.assertEqual([text_at(many, length, index) for index in range(len(right))], right)
                    self.assertEqual([index_of(many, text) for text in right], list(range(len(right))))
                    self.refused_with(InvalidNumber(len(right)), text_at, many, length, len(right))
                    self.refused_with(InvalidNumber(-1), text_at, many, length, -1)

    def test_there_and_back(self):
        for many in ALL_LETTERS:
            for text in random_texts(many, many):
                index = index_of(many, text)
                with self.subTest(many=many, text=text):
                    self.assertEqual(index, int(text or "0", many))
                    if index < 10 ** 60:
                        self.assertEqual(text_at(many, len(text), index), text)
                    else:
                        self.refused_with(InvalidNumber(index), text_at, many, len(text), index)

    def test_great_indices(self):
        for many in ALL_LETTERS:
            great = text_at(many, 200, 10 ** 60 - 1)
            self.assertEqual((len(great), int(great, many)), (200, 10 ** 60 - 1))
            for index in (10 ** 60, 10 ** 60 + 1, many ** 200 - 1, many ** 200, BIG, -1, -10 ** 59, -BIG):
                with self.subTest(many=many, index=index):
                    self.refused_with(InvalidNumber(index), text_at, many, 200, index)
        self.assertEqual(text_at(2, 199, 2 ** 199 - 1), "1" * 199)
        self.refused_with(InvalidNumber(2 ** 199), text_at, 2, 199, 2 ** 199)

    def test_indices_that_are_returned_can_be_longer(self):
        for many in ALL_LETTERS:
            self.assertEqual(index_of(many, str(many - 1) * 200), many ** 200 - 1)

    def test_wrong_lengths(self):
        for value in VALUES:
            if type(value) is not int or not 0 <= value <= 200:
                with self.subTest(value=value):
                    self.refused_with(InvalidNumber(value), text_at, 2, value, 0)
                    self.refused_with(InvalidNumber(value), text_at, 2, value, -1)
                    self.refused_with(InvalidNumber(value), lambda: next(texts(2, value)))

    def test_wrong_indices(self):
        for value in VALUES:
            if type(value) is not int or not 0 <= value < 9:
                with self.subTest(value=value):
                    self.refused_with(InvalidNumber(value), text_at, 3, 2, value)

    def test_wrong_texts(self):
        for many in ALL_LETTERS:
            for value in VALUES:
                if not is_text(many, value):
                    with self.subTest(many=many, value=value):
                        self.refused(InvalidText, index_of, many, value)

    def test_texts_come_one_by_one(self):
        for many in ALL_LETTERS:
            first = list(itertools.islice(texts(many, 200), many + 1))
            ends = ["0" * 199 + str(letter) for letter in range(many)]
            self.assertEqual(first, [*ends, "0" * 198 + "10"])

    def test_texts_is_a_generator(self):
        self.assertTrue(inspect.isgeneratorfunction(texts))
        for many, length in ((5, 1), (None, None), (2, 201), (2, True)):
            coming = texts(many, length)
            self.refused(InvalidNumber, next, coming)
