"""The known machines do what the words of the document tell."""

import itertools

from support import FOLDED, GRAY, HANOI, NO_LETTERS, ODD, Case, all_texts, random_texts
from textmovers.base.letters import index_of, text_at
from textmovers.errors import InvalidNumber
from textmovers.machine.known import counter, folded, gray, towers


class Counters(Case):

    def test_adds_one(self):
        for letters in (2, 3, 4):
            machine = counter(letters)
            self.assertEqual((machine.letters, machine.states), (letters, ("a", "e")))
            for length in range(6):
                for text in all_texts(letters, length):
                    number = (index_of(letters, text[::-1]) + 1) % letters ** length
                    self.assertEqual(machine.step("a", text)[0], text_at(letters, length, number)[::-1])
                    self.assertEqual(machine.step("e", text), (text, "e"))

    def test_long_numbers(self):
        for letters in (2, 3, 4):
            machine = counter(letters)
            for text in random_texts(letters, letters):
                number = (int("0" + text[::-1], letters) + 1) % letters ** len(text)
                self.assertEqual(int("0" + machine.step("a", text)[0][::-1], letters), number)
            last = str(letters - 1)
            self.assertEqual(machine.step("a", last * 200), ("0" * 200, "a"))
            self.assertEqual(machine.step("a", last * 199 + "0"), ("0" * 199 + "1", "e"))

    def test_the_counter_of_the_examples(self):
        self.assertTrue(counter(2) == ODD)

    def test_turns_and_nexts(self):
        machine = counter(4)
        self.assertEqual((machine.turn("a"), machine.nexts("a")), ((1, 2, 3, 0), ("e", "e", "e", "a")))
        self.assertEqual((machine.turn("e"), machine.nexts("e")), ((0, 1, 2, 3), ("e", "e", "e", "e")))

    def test_wrong_numbers(self):
        for letters in NO_LETTERS:
            self.refused_with(InvalidNumber(letters), counter, letters)


class Gray(Case):

    def test_goes_through_all_texts_one_letter_at_a_time(self):
        machine = gray()
        for length in range(1, 9):
            text = "0" * length
            seen = []
            states = itertools.cycle("ab")
            for _ in range(2 ** length):
                seen.append(text)
                come = machine.step(next(states), text)[0]
                if len(seen) < 2 ** length:
                    self.assertEqual(sum(one != other for one, other in zip(text, come)), 1)
                text = come
            self.assertEqual(sorted(seen), all_texts(2, length))

    def test_what_the_states_do(self):
        machine = gray()
        for text in all_texts(2, 6):
            self.assertEqual(machine.step("a", text)[0], "10"[int(text[0])] + text[1:])
            at = text.find("1") + 1
            turned = text if at in (0, 6) else text[:at] + "10"[int(text[at])] + text[at + 1:]
            self.assertEqual(machine.step("b", text)[0], turned)
            self.assertEqual(machine.step("e", text), (text, "e"))

    def test_the_machine_of_the_examples(self):
        self.assertTrue(gray() == GRAY)
        self.assertEqual(gray().states, ("a", "b", "e"))


class Towers(Case):

    def test_moves_the_smallest_disc_between_two_pegs(self):
        machine = towers()
        pegs = {"a": "01", "b": "02", "c": "12"}
        for state, (one, other) in pegs.items():
            for text in all_texts(3, 5):
                come = text
                for at, peg in enumerate(text):
                    if peg in (one, other):
                        come = text[:at] + (other if peg == one else one) + text[at + 1:]
                        break
                self.assertEqual(machine.step(state, text)[0], come)
        for text in all_texts(3, 3):
            self.assertEqual(machine.step("e", text), (text, "e"))

    def test_the_machine_of_the_examples(self):
        self.assertTrue(towers() == HANOI)
        self.assertEqual((towers().letters, towers().states), (3, ("a", "b", "c", "e")))


class Folded(Case):

    def test_what_the_states_do(self):
        machine = folded()
        for text in all_texts(2, 7):
            for state, turning in (("a", True), ("b", False)):
                come = ""
                left = text
                while left:
                    come += "10"[int(left[0])] if turning else left[0]
                    if left[0] == "0":
                        come += left[1:]
                        break
                    left = left[1:]
                    turning = not turning
                self.assertEqual(machine.step(state, text)[0], come)
            self.assertEqual(machine.step("e", text), (text, "e"))

    def test_the_machine_of_the_examples(self):
        self.assertTrue(folded() == FOLDED)
        self.assertEqual(str(folded()), "machine of 2 letters: a 10 e b, b 01 e a, e 01 e e")


class Made(Case):

    def test_equal_calls_give_equal_machines(self):
        for call in (gray, towers, folded, lambda: counter(3)):
            self.assertTrue(call() == call())
