"""Moves that go round all texts of a length, and the level sums that tell it."""

import itertools
import random
from math import gcd

from support import (
    BIG, FOLDED, GRAY, HANOI, LAMP, ODD, STAY, SWAP, VALUES, Case, all_texts, circling_move, put_ahead, quiet_machines,
    random_moves, random_texts, ring_move, short_texts, turns,
)
from textmovers.base.letters import is_text
from textmovers.errors import InvalidMove, InvalidNumber, InvalidOperation, InvalidText, TooMany
from textmovers.machine.known import counter
from textmovers.move.moves import Move, first_turned, idle, joined_move, move_of
from textmovers.move.words import word_move
from textmovers.ring.rings import led_often, ring_rest, times
from textmovers.ring.rounds import (
    first_stop, goes_round, has_rotations, is_round_paper, level_sum, place_in_round, round_paper, round_rests,
    stop_by_sums, text_in_round,
)

ADD = move_of(ODD, "a")
BOTH = word_move(HANOI, (("a", 1), ("b", 1)))
LAMP_A = move_of(LAMP, "a")
# It goes round one letter; the next round rest has 72 rests.
GREAT = joined_move(SWAP, ring_move(8), ring_move(9))


def tame(move):
    """Whether all round rests can be told."""
    try:
        return bool(round_rests(move))
    except TooMany:
        return False


def some_moves():
    """Moves that go round some lengths, or all of them."""
    found = [move_of(machine, state) for machine in (ODD, GRAY, HANOI, FOLDED, LAMP, counter(3), counter(4)) for state in machine]
    found += [~ADD, ADD * ADD, ADD.power(3), BOTH, BOTH * BOTH, ~BOTH, idle(2), idle(4), circling_move(3, 4), circling_move(2, 3, 2)]
    chance = random.Random(2)
    for machine in quiet_machines(41, 60, sizes=(2, 3, 4), letters=(2, 3)):
        found.append(word_move(machine, tuple((chance.choice(machine.states), 1) for _ in range(4))))
    for letters in (2, 3, 4):
        for move in random_moves(letters + 90, letters, 25, 3):
            ring = (*range(1, letters), 0)
            found += [move, Move(letters, (ring, move.rows[0][1]), *move.rows[1:])]
    return [move for move in found if tame(move)]


MOVES = some_moves()


def model_length(move, most):
    """The least length up to most whose texts are not one ring, or None."""
    for length in range(most + 1):
        text, many = move("0" * length), 1
        while text != "0" * length:
            text, many = move(text), many + 1
        if many < move.letters ** length:
            return length
    return None


def most_of(move):
    """A length of which all texts can be looked at."""
    return {2: 7, 3: 4, 4: 3}[move.letters]


def turns_round(move):
    """Whether the first letter is led round all letters."""
    come, ring = 0, []
    while come not in ring:
        ring.append(come)
        come = move.first_turn[come]
    return len(ring) == move.letters


class Rounds(Case):

    def test_against_rings_of_all_texts(self):
        met = {None: 0}
        for move in MOVES:
            told = first_stop(move)
            met[told] = met.get(told, 0) + 1
            most = most_of(move)
            model = model_length(move, most)
            if model is not None:
                self.assertEqual(told, model)
            else:
                self.assertTrue(told is None or told > most)
            for length in range(most + 1):
                self.assertIs(goes_round(move, length), model is None or length < model)
            self.assertIs(goes_round(move), told is None)
            self.assertIs(goes_round(move, None), told is None)
            for length in (50, 199, 200):
                self.assertIs(goes_round(move, length), told is None or length < told)
        self.assertGreater(met[None], 8)
        self.assertLessEqual({1, 2, 3}, set(met))

    def test_round_rests(self):
        for move in MOVES:
            rests = round_rests(move)
            self.assertIs(type(rests), tuple)
            forms = [rest.rows for rest in rests]
            self.assertEqual(len(set(forms)), len(forms))
            rest = move
            for at, form in enumerate(forms):
                self.assertEqual(rest.rows, form)
                ring = turns_round(rest)
                self.assertEqual(ring, at < len(forms) - 1 or first_stop(move) is None)
                if ring:
                    rest = ring_rest(rest, "0")
            if first_stop(move) is None:
                self.assertIn(rest.rows, forms)
            else:
                self.assertEqual(first_stop(move), len(forms))

    def test_a_next_round_rest_is_a_product_of_rests(self):
        for move in MOVES:
            if goes_round(move, 2):
                product = idle(move.letters)
                text = "00"
                for _ in range(move.letters ** 2):
                    product, text = product * move.rest(text), move(text)
                self.assertTrue(round_rests(move)[2 % len(round_rests(move))] == product or len(round_rests(move)) < 3)

    def test_undone_powers_and_moved_moves(self):
        for move in MOVES:
            stop = first_stop(move)
            if len(move) > 12:
                continue
            self.assertEqual(first_stop(~move), stop)
            for number in (2, 3, 4, 5, -3):
                try:
                    power = move.power(number)
                    if stop is None or stop > 1:
                        told = stop if gcd(number, move.letters) == 1 else 1
                        self.assertEqual(first_stop(power), told)
                    moved = move.moved_by(first_turned(move.letters, turns(move.letters)[-1]))
                    self.assertEqual(first_stop(moved), stop)
                except TooMany as error:
                    self.assertEqual(error.limit, 60)

    def test_products_of_moves_that_go_round_need_not(self):
        self.assertIs(goes_round(ADD * ADD), False)
        self.assertIs(goes_round(ADD * ~ADD, 1), False)
        self.assertIs(goes_round(BOTH * ~BOTH), False)

    def test_as_many_letters_as_rows_are_not_enough(self):
        move = put_ahead(put_ahead(put_ahead(first_turned(2, STAY))))
        self.assertEqual((len(move), first_stop(move)), (4, 4))
        ahead = move_of(FOLDED, "a")
        self.assertEqual(first_stop(ahead), 2)
        found = [one for one in MOVES if first_stop(one) is not None and first_stop(one) > len(one)]
        self.assertTrue(all(goes_round(one, len(one)) and not goes_round(one) for one in found))

    def test_ahead(self):
        for move in MOVES[::4]:
            stop = first_stop(move)
            if len(move) < 58:
                self.assertEqual(first_stop(put_ahead(move)), None if stop is None else stop + 1)

    def test_the_length_zero(self):
        for move in [*MOVES, GREAT]:
            self.assertIs(goes_round(move, 0), True)
            self.assertEqual((place_in_round(move, ""), text_in_round(move, 0, 0)), (0, ""))


class Bounds(Case):

    def test_more_than_sixty_rests(self):
        for ahead in (0, 1, 5, 20):
            move = GREAT
            for _ in range(ahead):
                move = put_ahead(move)
            for call in (round_rests, first_stop, goes_round, round_paper):
                self.refused_with(TooMany(60), call, move)
            # No more round rests are looked at than are told.
            self.assertIs(goes_round(move, ahead + 1), True)
            self.assertEqual(place_in_round(move, move("0" * (ahead + 1))), 1)
            self.assertEqual(text_in_round(move, ahead + 1, 1), move("0" * (ahead + 1)))
            for length in (ahead + 2, 200):
                self.refused_with(TooMany(60), goes_round, move, length)
                self.refused_with(TooMany(60), place_in_round, move, "0" * length)
                self.refused_with(TooMany(60), text_in_round, move, length, 0)

    def test_a_stop_ahead_of_them(self):
        move = put_ahead(put_ahead(joined_move(STAY, GREAT, GREAT)))
        self.assertEqual((first_stop(move), len(round_rests(move))), (3, 3))
        self.assertIs(goes_round(move), False)
        self.assertEqual(round_paper(move), ("apart", "000", "001"))
        self.assertIs(is_round_paper(move, round_paper(move)), True)

    def test_sixty_rests(self):
        move = joined_move(SWAP, ring_move(5), ring_move(12))
        self.assertEqual([len(rest) for rest in round_rests(move)], [18, 60])
        self.assertEqual(first_stop(move), 2)
        self.assertEqual(round_paper(move), ("apart", "00", "01"))

    def test_a_hundred_round_rests_and_more(self):
        self.assertEqual(len(round_rests(circling_move(9, 11))), 99)
        just = circling_move(9, 11, 1)
        self.assertEqual(len(round_rests(just)), 100)
        self.assertEqual((first_stop(just), goes_round(just), goes_round(just, 200)), (None, True, True))
        self.assertIs(is_round_paper(just, round_paper(just)), True)
        self.assertEqual(len(round_paper(just)[1]), 100)
        for more in (circling_move(9, 11, 2), circling_move(10, 11), circling_move(11, 12)):
            for call in (round_rests, first_stop, goes_round, round_paper):
                self.refused_with(TooMany(100), call, more)
            self.assertIs(goes_round(more, 100), True)
            for length in (101, 102, 200):
                self.refused_with(TooMany(100), goes_round, more, length)
                self.refused_with(TooMany(100), place_in_round, more, "0" * length)
                self.refused_with(TooMany(100), text_in_round, more, length, 5)
            self.assertEqual(place_in_round(more, more("0" * 100)), 1)
            self.assertEqual(text_in_round(more, 100, 2 ** 100 - 1), (~more)("0" * 100))

    def test_papers_are_judged_without_bounds(self):
        more = circling_move(9, 11, 2)
        first, second = more, ring_rest(more, "0")
        moves = (first, second, *round_rests(circling_move(9, 11)))
        self.assertEqual(len(moves), 101)
        self.assertIs(is_round_paper(more, ("round", moves)), True)
        self.assertIs(is_round_paper(more, ("round", moves[::-1])), True)
        self.assertIs(is_round_paper(more, ("round", moves[1:])), False)
        self.assertIs(is_round_paper(more, ("round", moves[:50])), False)
        self.assertIs(is_round_paper(GREAT, ("round", (GREAT,))), False)
        self.assertIs(is_round_paper(GREAT, ("apart", "0", "1")), False)
        self.assertIs(is_round_paper(GREAT, ("apart", "00", "01")), False)

    def test_ring_rests_on_the_way_of_a_paper(self):
        # The ring-rest behind 0 can be told, that behind 00 cannot: it is not asked for two letters.
        move = joined_move((0, 1), GREAT, first_turned(2, SWAP))
        self.assertIs(is_round_paper(move, ("apart", "0", "1")), True)
        self.assertIs(is_round_paper(move, ("apart", "00", "10")), True)
        self.assertIs(is_round_paper(move, ("apart", "000", "100")), False)
        self.assertIs(is_round_paper(move, ("apart", "100", "000")), True)
        self.assertIs(is_round_paper(move, ("apart", "10" * 100, "00" * 100)), True)

    def test_great_loud_moves(self):
        chance = random.Random(5)
        rows = tuple(
            (tuple(chance.sample(range(4), 4)), tuple(chance.randrange(60) for _ in range(4))) for _ in range(60)
        )
        move = Move(4, ((1, 2, 3, 0), rows[0][1]), *rows[1:])
        self.refused_with(TooMany(60), goes_round, move)
        self.assertIs(is_round_paper(move, ("round", (move,))), False)
        self.assertIs(is_round_paper(move, ("apart", "0" * 200, "1" * 200)), False)


class Papers(Case):

    def is_model_paper(self, move, value):
        """What the document says of a paper."""
        if type(value) is not tuple or not value or type(value[0]) is not str:
            return False
        if value[0] == "round":
            if len(value) != 2 or type(value[1]) is not tuple:
                return False
            if any(not isinstance(one, Move) or one.letters != move.letters for one in value[1]):
                return False
            forms = [one.rows for one in value[1]]
            if len(set(forms)) < len(forms) or move.rows not in forms:
                return False
            for one in value[1]:
                if not turns_round(one):
                    return False
                if not any(ring_rest(one, str(letter)).rows in forms for letter in range(move.letters)):
                    return False
            return True
        if value[0] != "apart" or len(value) != 3:
            return False
        if any(type(one) is not str or not is_text(move.letters, one) for one in value[1:]):
            return False
        return len(value[1]) == len(value[2]) and times(move, value[1], value[2]) is None

    def test_papers_that_are_told(self):
        for move in MOVES:
            paper = round_paper(move)
            try:
                self.assertTrue(self.is_model_paper(move, paper))
            except TooMany:
                # The model asks for the ring-rest behind the whole text, too.
                self.assertEqual(paper[0], "apart")
            self.assertIs(is_round_paper(move, paper), True)
            self.assertEqual(paper[0], "round" if goes_round(move) else "apart")
            if paper[0] == "apart":
                self.assertEqual(len(paper[1]), first_stop(move))

    def near(self, chance, move, paper):
        """Values near a paper."""
        letters = move.letters
        if paper[0] == "round":
            moves = paper[1]
            others = [~move, idle(letters), move * move, chance.choice(moves), first_turned(letters, turns(letters)[-1]),
                      idle(3 if letters == 2 else 2), None, "0", move.rows, chance.choice(VALUES), ring_rest(move, "1")]
            for other in others:
                yield "round", (*moves, other)
                yield "round", (other, *moves)
                yield "round", (*moves[:-1], other)
                yield "round", (other,)
            for at in range(len(moves)):
                yield "round", moves[:at] + moves[at + 1:]
            yield "round", moves[::-1]
            yield "round", tuple(chance.sample(moves, len(moves)))
            yield "round", moves * 2
            yield "round", list(moves)
            yield "round", (*moves, *[~one for one in moves])
            # Those behind another letter will do as well.
            told = [move]
            while len(told) < 40 and ring_rest(told[-1], "1") not in told:
                told.append(ring_rest(told[-1], "1"))
            yield "round", tuple(told)
            yield "apart", "0", "1"
            yield "apart", "00", "01"
        else:
            _, text, other = paper
            for one in [*short_texts(letters, 2), text, other, text + "0", other + "1", "9", None, 0, "0" * 201]:
                yield "apart", one, other
                yield "apart", text, one
                yield "apart", one, one
            yield "apart", other, text
            yield "apart", text + "01", other + "00"
            yield "apart", text * 150, other * 150
            yield "round", (move,)
            yield "round", ()
        for value in VALUES:
            yield value
            yield (paper[0], value)
            yield (*paper, value)
            yield (value, *paper[1:])
        yield list(paper)
        yield paper[1:]

    def test_values_near_papers(self):
        chance = random.Random(1)
        met = {True: 0, False: 0}
        some = [move for move in MOVES if goes_round(move)][:14] + [move for move in MOVES if not goes_round(move)][::6]
        for move in some:
            for value in self.near(chance, move, round_paper(move)):
                try:
                    model = self.is_model_paper(move, value)
                except TooMany:
                    continue
                judged = is_round_paper(move, value)
                self.assertIs(judged, model, (move.rows, str(value)[:300]))
                met[judged] += 1
        self.assertGreater(met[True], 100)
        self.assertGreater(met[False], 1000)

    def test_never_both_forms(self):
        for move in MOVES[::3]:
            stop = first_stop(move)
            for length in range(1, 4 if move.letters < 3 else 3):
                for text, other in itertools.combinations(all_texts(move.letters, length), 2):
                    try:
                        told = is_round_paper(move, ("apart", text, other))
                        self.assertIs(told, self.is_model_paper(move, ("apart", text, other)))
                    except TooMany:
                        continue
                    self.assertFalse(told and (stop is None or length < stop))
        self.assertIs(is_round_paper(ADD, ("apart", "", "")), False)
        self.assertIs(is_round_paper(idle(2), ("apart", "", "")), False)

    def test_moves_come_first(self):
        for value in VALUES:
            if not isinstance(value, Move):
                self.refused(InvalidMove, is_round_paper, value, value)
                self.refused(InvalidMove, is_round_paper, value, ("round", (ADD,)))


class Places(Case):

    def test_the_texts_are_counted_as_the_move_goes(self):
        for move in MOVES:
            for length in range(most_of(move) - 1):
                if goes_round(move, length):
                    text = "0" * length
                    for place in range(move.letters ** length):
                        self.assertEqual(place_in_round(move, text), place)
                        self.assertEqual(text_in_round(move, length, place), text)
                        text = move(text)
                else:
                    self.refused(InvalidOperation, place_in_round, move, "0" * length)
                    self.refused(InvalidOperation, text_in_round, move, length, 0)

    def test_two_hundred_letters(self):
        some = [move for move in MOVES if goes_round(move)] + [circling_move(9, 11, 1), circling_move(9, 10)]
        for move in some:
            for text in random_texts(4, move.letters, (20, 101, 200)):
                place = place_in_round(move, text)
                self.assertEqual(text_in_round(move, len(text), place), text)
                self.assertEqual(place_in_round(move, move(text)), (place + 1) % move.letters ** len(text))
                self.assertEqual(text_in_round(move, len(text), 0), "0" * len(text))
                last = move.letters ** len(text) - 1
                self.assertEqual(move(text_in_round(move, len(text), last)), "0" * len(text))
                self.assertEqual(led_often(move, "0" * len(text), place), text) if place < 10 ** 60 else None

    def test_places_of_any_number_of_digits(self):
        self.assertEqual(text_in_round(ADD, 200, 2 ** 200 - 1), "1" * 200)
        self.refused_with(InvalidNumber(2 ** 200), text_in_round, ADD, 200, 2 ** 200)
        self.assertEqual(text_in_round(move_of(counter(4), "a"), 200, 4 ** 200 - 1), "3" * 200)
        self.refused_with(InvalidNumber(2 ** 10), text_in_round, ADD, 10, 2 ** 10)


class Sums(Case):

    def rotating(self):
        """Moves whose turns are all rotations."""
        chance = random.Random(3)
        found = [ADD, LAMP_A, move_of(GRAY, "b"), move_of(counter(3), "a"), move_of(counter(4), "a"), ring_move(9), idle(3)]
        for letters in (2, 3, 4):
            for _ in range(30):
                rows = chance.randint(1, 5)
                shifts = [chance.randrange(letters) for _ in range(rows)]
                found.append(Move(letters, *[
                    (tuple((letter + shift) % letters for letter in range(letters)),
                     tuple(chance.randrange(rows) for _ in range(letters))) for shift in shifts
                ]))
        return found

    def test_rotations(self):
        for letters in (2, 3, 4):
            for turn in turns(letters):
                told = any(turn == tuple((letter + shift) % letters for letter in range(letters)) for shift in range(letters))
                self.assertIs(has_rotations(first_turned(letters, turn)), told)
                self.assertIs(has_rotations(put_ahead(first_turned(letters, turn))), told)
        for move in random_moves(4, 2):
            self.assertIs(has_rotations(move), True)
        self.assertIs(has_rotations(BOTH), False)
        # Rows that are not reached have no turns of the move.
        self.assertIs(has_rotations(Move(3, ((1, 2, 0), (0, 0, 0)), ((1, 0, 2), (1, 1, 1)))), True)

    def test_against_all_texts(self):
        for move in self.rotating():
            for length in range(6 if move.letters == 2 else 4):
                told = sum(move.rest(text).first_turn[0] for text in all_texts(move.letters, length)) % move.letters
                self.assertEqual(level_sum(move, length), told)

    def test_sums_of_products(self):
        chance = random.Random(6)
        some = self.rotating()
        for _ in range(60):
            one, other = chance.sample(some, 2)
            if one.letters == other.letters:
                for length in (0, 1, 5, 1000, 10 ** 40, 10 ** 60 - 1):
                    both = (level_sum(one, length) + level_sum(other, length)) % one.letters
                    self.assertEqual(level_sum(one * other, length), both)
                    self.assertEqual((level_sum(~one, length) + level_sum(one, length)) % one.letters, 0)

    def test_great_lengths(self):
        # The sums at each rest follow from those of one letter less, so they come again.
        for move in self.rotating():
            sums, seen, told = tuple(turn[0] for turn, _ in move.rows), {}, []
            while sums not in seen:
                seen[sums] = len(told)
                told.append(sums)
                sums = tuple(sum(sums[one] for one in nexts) % move.letters for _, nexts in move.rows)
            start, period = seen[sums], len(told) - seen[sums]
            for length in (100, 10 ** 20, 10 ** 59, 10 ** 60 - 1, 2 ** 150 + 1):
                at = length if length < start else start + (length - start) % period
                self.assertEqual(level_sum(move, length), told[at][0])

    def test_great_moves(self):
        chance = random.Random(7)
        for letters in (2, 3, 4):
            move = Move(letters, *[
                (tuple((letter + shift) % letters for letter in range(letters)),
                 tuple(chance.randrange(60) for _ in range(letters)))
                for shift in [chance.randrange(letters) for _ in range(60)]
            ])
            if letters == 2:
                self.assertEqual(level_sum(move, 10 ** 60 - 1), level_sum(move * idle(2), 10 ** 60 - 1))
            sums = [turn[0] for turn, _ in move.rows]
            for _ in range(3000):
                sums = [sum(sums[one] for one in nexts) % letters for _, nexts in move.rows]
            self.assertEqual(level_sum(move, 3000), sums[0])
            # Lengths that are put together: behind 10 ** 59 + 1 letters by those behind one letter.
            rests = sum(level_sum(move.rest(str(letter)), 10 ** 59) for letter in range(letters))
            self.assertEqual(level_sum(move, 10 ** 59 + 1), rests % letters)

    def test_stops_against_round_rests(self):
        for move in self.rotating():
            told = stop_by_sums(move)
            model = model_length(move, most_of(move))
            if model is not None:
                self.assertEqual(told, model)
            else:
                self.assertTrue(told is None or told > most_of(move))
            if tame(move):
                self.assertEqual(told, first_stop(move))

    def circles(self, *sizes, waiting=0):
        """A move of two letters that goes round all lengths, and whose rests have sums that come again after many.

        Row 0 adds one and goes on, behind 0, to circles of so many rows. Both letters lead into each circle, so
        nothing comes of it for the sums of row 0. Ahead of the first circle so many rows wait.
        """
        many = len(sizes)
        first = 1 + 2 * many + waiting
        still = first + sum(sizes)
        starts = [first + sum(sizes[:at]) for at in range(many)]
        heads = [1 + 2 * many if waiting else starts[0], *starts[1:]]
        rows = [(SWAP, (1, 0))]
        rows += [(STAY, (1 + many + at, 2 + at if at + 1 < many else still)) for at in range(many)]
        rows += [(STAY, (head, head)) for head in heads]
        rows += [(STAY, (2 + 2 * many + at if at + 1 < waiting else first, still)) for at in range(waiting)]
        for start, size in zip(starts, sizes):
            rows += [(STAY if at else SWAP, (start + (at + 1) % size, still)) for at in range(size)]
        return Move(2, *rows, (STAY, (still, still)))

    def test_a_thousand_lengths(self):
        met = set()
        for sizes, waiting in (((7, 11, 13), 0), ((9, 11, 10), 0), ((8, 9, 13), 0), ((9, 10, 13), 0), ((9, 10, 11), 17),
                               ((9, 10, 11), 18), ((9, 10, 11), 19), ((9, 10, 11), 20)):
            move = self.circles(*sizes, waiting=waiting)
            sums, seen = tuple(turn[0] for turn, _ in move.rows), {}
            while sums not in seen:
                self.assertEqual(sums[0], 1)
                seen[sums] = len(seen)
                sums = tuple(sum(sums[one] for one in nexts) % 2 for _, nexts in move.rows)
            met.add(len(seen))
            if len(seen) <= 1000:
                self.assertIsNone(stop_by_sums(move))
            else:
                self.refused_with(TooMany(1000), stop_by_sums, move)
        self.assertLessEqual({1000, 1001}, met)

    def test_late_stops(self):
        # A circle whose sums are 1 but once in so many lengths, behind all those.
        for many in (1, 2, 10, 58):
            rows = [(SWAP, (at + 1, many + 1)) for at in range(many)] + [(STAY, (many + 1,) * 2), (STAY, (many + 1,) * 2)]
            self.assertEqual(stop_by_sums(Move(2, *rows)), many + 1)
            self.assertEqual(first_stop(Move(2, *rows)), many + 1)

    def test_no_rotations(self):
        for move in (BOTH, move_of(HANOI, "a"), put_ahead(first_turned(4, (1, 0, 2, 3)))):
            for length in (0, 3, 10 ** 30):
                self.refused(InvalidOperation, level_sum, move, length)
            self.refused(InvalidOperation, stop_by_sums, move)


class Refused(Case):

    def test_moves_come_first(self):
        for value in VALUES:
            if not isinstance(value, Move):
                for call in (round_rests, first_stop, goes_round, round_paper, has_rotations, stop_by_sums):
                    self.refused(InvalidMove, call, value)
                for call in (goes_round, place_in_round, level_sum):
                    self.refused(InvalidMove, call, value, value)
                self.refused(InvalidMove, text_in_round, value, value, value)

    def test_lengths(self):
        for value in VALUES:
            if type(value) is not int or not 0 <= value <= 200:
                for move in (ADD, GREAT, ADD * ADD):
                    if value is not None:
                        self.refused_with(InvalidNumber(value), goes_round, move, value)
                    self.refused_with(InvalidNumber(value), text_in_round, move, value, 0)
                    self.refused_with(InvalidNumber(value), text_in_round, move, value, value)
            if type(value) is not int or not 0 <= value < 10 ** 60:
                for move in (ADD, BOTH):
                    self.refused_with(InvalidNumber(value), level_sum, move, value)

    def test_places(self):
        for value in VALUES:
            if type(value) is not int or not 0 <= value < 8:
                for move in (ADD, GREAT, ADD * ADD):
                    self.refused_with(InvalidNumber(value), text_in_round, move, 3, value)
            if type(value) is not int or not 0 <= value < 2 ** 200:
                self.refused_with(InvalidNumber(value), text_in_round, GREAT, 200, value)

    def test_texts(self):
        for value in VALUES:
            if not is_text(2, value):
                for move in (ADD, GREAT, ADD * ADD):
                    self.refused(InvalidText, place_in_round, move, value)
        self.refused(InvalidText, place_in_round, BOTH, "3")

    def test_what_stands_behind_then(self):
        # A move with too many rests is not asked whether it goes round.
        self.refused_with(TooMany(60), place_in_round, GREAT, "00")
        self.refused(InvalidOperation, place_in_round, ADD * ADD, "0")
        self.refused(InvalidOperation, text_in_round, joined_move(STAY, GREAT, GREAT), 5, 0)
        self.refused_with(InvalidNumber(BIG), level_sum, BOTH, BIG)
        self.assertEqual(text_in_round(ADD * ADD, 0, 0), "")

    def test_nothing_is_changed(self):
        told = [str(move) for move in (GREAT, ADD, BOTH)]
        self.refused_with(TooMany(60), first_stop, GREAT)
        round_paper(BOTH), level_sum(ADD, 10 ** 50), place_in_round(BOTH, "0212")
        self.assertEqual([str(move) for move in (GREAT, ADD, BOTH)], told)
