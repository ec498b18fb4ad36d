"""Endless texts that are near one another."""

import itertools
import random

from refusals import any_place, endless_place, hold_refusals, machine_place, number_place
from support import (
    BIG, FLIP, FOLDED, GRAY, HANOI, LAMP, LONG, MORE, ODD, SIXTY, VALUES, Case, all_texts, quiet_machines, told_machine,
)
from textmovers.core.cores import core
from textmovers.endless.near import (
    are_near, end_moves, far_length, is_near_paper, leaders, near_groups, near_ones, near_paper,
)
from textmovers.endless.texts import Endless
from textmovers.errors import InvalidMachine, InvalidNumber, InvalidText, Loud, TooMany
from textmovers.grow.busy import loud_state
from textmovers.machine.known import counter
from textmovers.machine.machines import Machine
from textmovers.move.moves import Move, first_turned, idle, move_of

KNOWN = [ODD, GRAY, HANOI, FOLDED, FLIP, counter(3), counter(4)]
# Circles of two and of three rows in the core.
CIRCLES = [
    told_machine("machine of 2 letters: a 10 b e, b 01 a e, e 01 e e"),
    told_machine("machine of 3 letters: a 120 e b e, b 012 e c e, c 021 e a e, e 012 e e e"),
    told_machine("machine of 2 letters: a 10 e b, b 10 c e, c 10 d e, d 01 e a, e 01 e e"),
]

# A circle of seven states along one letter.
SEVEN = told_machine("machine of 2 letters: a 10 b i, b 01 c i, c 01 d i, d 10 f i, f 10 g i, g 01 h i, h 01 a i, i 01 i i")


def some_machines():
    found = [*KNOWN, *CIRCLES]
    for machine in quiet_machines(31, 30, sizes=(3, 4, 5), letters=(2, 3)):
        try:
            if 3 < len(core(machine)) <= 20:
                found.append(machine)
        except TooMany:
            pass
    return found


MACHINES = some_machines()


def short_ones(letters, rings=2, tails=2):
    """All endless texts with short rings and tails."""
    found = []
    for size in range(1, rings + 1):
        for ring in all_texts(letters, size):
            for length in range(tails + 1):
                for tail in all_texts(letters, length):
                    one = Endless(letters, ring, tail=tail)
                    if one not in found:
                        found.append(one)
    return found


def far_text(endless, length):
    """The last letters, of any number."""
    missing = max(length - len(endless.tail), 0)
    return (endless.ring * (missing // len(endless.ring) + 1) + endless.tail)[-length:] if length else ""


def plain_core(machine):
    """The core as rows: for each move its turn and the places of its rests."""
    moves = core(machine)
    places = {move.rows: place for place, move in enumerate(moves)}
    return [(move.first_turn, [places[move.rest(str(letter)).rows] for letter in range(machine.letters)]) for move in moves]


def model_leaders(rows, one, other, length):
    """The places of the moves that lead the end of the one of a length to that of the other one."""
    text, come = far_text(one, length), far_text(other, length)
    found = []
    for first in range(len(rows)):
        place, led = first, ""
        for sign in text:
            led += str(rows[place][0][int(sign)])
            place = rows[place][1][int(sign)]
        if led == come:
            found.append(first)
    return found


def model_ends(rows, one, other):
    """The places of the end moves: what walks that come from very far on the left come to."""
    length = max(len(one.tail), len(other.tail)) + (len(rows) + 1) * len(one.ring) * len(other.ring)
    text, come = far_text(one, length), far_text(other, length)
    alive = set(range(len(rows)))
    for sign, other_sign in zip(text, come):
        alive = {rows[place][1][int(sign)] for place in alive if rows[place][0][int(sign)] == int(other_sign)}
    return sorted(alive)


def pairs_of(machine, seed, many):
    """Pairs of endless texts, most of them near, and some with long rings and tails."""
    chance = random.Random(seed)
    found = []
    for _ in range(many):
        ring, tail = ("".join(chance.choice("0123"[:machine.letters]) for _ in range(chance.choice(sizes)))
                      for sizes in ((1, 1, 2, 3, 5, 12), (0, 1, 3, 40)))
        one = Endless(machine.letters, ring, tail=tail)
        near = near_ones(machine, one)
        other = chance.choice([*near, *near, Endless(machine.letters, tail or "0" if len(tail) < 12 else "01"), one.put("0"), one.cut(1)])
        found.append((one, other))
    return found


class Walks(Case):

    def test_leaders(self):
        for machine in MACHINES:
            rows, moves = plain_core(machine), core(machine)
            for one, other in pairs_of(machine, 1, 6):
                for length in (0, 1, 2, 5, 41, 200):
                    told = leaders(machine, one, other, length)
                    self.assertIs(type(told), tuple)
                    self.assertEqual(told, tuple(moves[place] for place in model_leaders(rows, one, other, length)))
                    for move in told:
                        self.assertEqual(move(one.end(length)), other.end(length))

    def test_end_moves(self):
        for machine in MACHINES:
            rows, moves = plain_core(machine), core(machine)
            for one, other in pairs_of(machine, 2, 10):
                model = model_ends(rows, one, other)
                self.assertEqual(end_moves(machine, one, other), tuple(moves[place] for place in model))
                self.assertIs(are_near(machine, one, other), bool(model))

    def test_all_short_ones(self):
        for machine in (ODD, GRAY, FOLDED, CIRCLES[0]):
            rows = plain_core(machine)
            every = short_ones(2)
            for one, other in itertools.product(every[::2], every):
                self.assertIs(are_near(machine, one, other), bool(model_ends(rows, one, other)))

    def test_near_is_the_same_for_both_and_goes_on(self):
        for machine in MACHINES[:12]:
            every = short_ones(machine.letters, 2, 1)[:14]
            near = {(at, to): are_near(machine, one, other) for (at, one), (to, other) in itertools.product(enumerate(every), repeat=2)}
            for at, to, on in itertools.product(range(len(every)), repeat=3):
                self.assertIs(near[at, at], True)
                self.assertIs(near[at, to], near[to, at])
                if near[at, to] and near[to, on]:
                    self.assertTrue(near[at, on])

    def test_cut_and_put(self):
        for machine in MACHINES:
            for one, other in pairs_of(machine, 3, 6):
                if are_near(machine, one, other):
                    for number in (1, 2, 40, 200):
                        self.assertIs(are_near(machine, one.cut(number), other.cut(number)), True)
                moves = end_moves(machine, one, other)
                for text, come in itertools.product(all_texts(machine.letters, 2)[::3], repeat=2):
                    told = any(move(text) == come for move in moves)
                    self.assertIs(are_near(machine, one.put(text), other.put(come)), told)

    def test_near_by_few_steps(self):
        # For each length of the ends so few steps lead from one to the other.
        for machine, one, other in ((ODD, Endless(2, "1"), Endless(2, "0")), (HANOI, Endless(3, "2", tail="01"), Endless(3, "2", tail="11")),
                                    (GRAY, Endless(2, "0", tail="10"), Endless(2, "0", tail="11"))):
            self.assertIs(are_near(machine, one, other), True)
            for length in range(8):
                reached = {one.end(length)}
                for _ in range(2):
                    reached |= {step(text) for text in reached for state in machine
                                for step in (move_of(machine, state), ~move_of(machine, state))}
                self.assertIn(other.end(length), reached)


class Ones(Case):

    def test_all_that_are_near(self):
        for machine in MACHINES:
            moves = core(machine)
            every = short_ones(machine.letters, 3 if machine.letters == 2 else 2, 1)
            for one in every[:10]:
                told = near_ones(machine, one)
                self.assertIs(type(told), tuple)
                self.assertIn(one, told)
                self.assertLessEqual(len(told), len(moves))
                self.assertTrue(all(few < more for few, more in zip(told, told[1:])))
                for other in [*told, *every[:12]]:
                    self.assertIs(other in told, are_near(machine, one, other))

    def test_against_long_ends(self):
        # What is near goes on as some move of the core leads it, whatever stands far on the left.
        for machine in MACHINES:
            moves = core(machine)
            for one, _ in pairs_of(machine, 4, 6):
                told = near_ones(machine, one)
                text = one.end(200)
                model = {move(text)[-60:] for move in moves}
                self.assertLessEqual({other.end(60) for other in told}, model)

    def test_the_same_for_all_that_are_near(self):
        for machine in MACHINES:
            for one, other in pairs_of(machine, 5, 6):
                if are_near(machine, one, other):
                    self.assertEqual(near_ones(machine, one), near_ones(machine, other))

    def test_long_rings_and_tails(self):
        machine = SEVEN
        one = Endless(2, "0")
        told = near_ones(machine, one)
        self.assertEqual(max(len(other.ring) for other in told), 7)
        for other in told:
            self.assertEqual(near_ones(machine, other), told)
            self.assertIs(are_near(machine, other.cut(200), one.cut(200)), True)
        far = one.put("1" * 200).put("0" * 200)
        self.assertEqual(len(far.tail), 400)
        self.assertIs(are_near(machine, far, far), True)
        self.assertIs(are_near(machine, far, far.put("0").cut(1)), True)
        self.assertIn(far, near_ones(machine, far))

    def test_all_texts_of_a_still_machine(self):
        for one in short_ones(2):
            self.assertEqual(near_ones(FLIP, one), (one,))


class Groups(Case):

    def test_against_pairs(self):
        for machine in MACHINES[:12]:
            chance = random.Random(6)
            every = short_ones(machine.letters)
            for many in (1, 2, 5, 9, 12):
                chosen = [chance.choice(every) for _ in range(many)]
                chosen = [chance.choice(near_ones(machine, chance.choice(chosen))) for _ in chosen]
                told = near_groups(machine, *chosen)
                self.assertEqual(sorted(index for group in told for index in group), list(range(many)))
                self.assertEqual(list(told), sorted(tuple(sorted(group)) for group in told))
                places = {index: group for group in told for index in group}
                for at, to in itertools.combinations(range(many), 2):
                    self.assertIs(places[at] == places[to], are_near(machine, chosen[at], chosen[to]))

    def test_one_to_twelve(self):
        zeros = Endless(2, "0")
        self.assertEqual(near_groups(ODD, zeros), ((0,),))
        self.assertEqual(near_groups(ODD, *[zeros] * 12), (tuple(range(12)),))
        for machine in (ODD, LAMP):
            self.refused(InvalidText, near_groups, machine)
            self.refused(InvalidText, near_groups, machine, *[zeros] * 13)
            self.refused(InvalidText, near_groups, machine, *[zeros] * 11, Endless(3, "0"))


class Far(Case):

    def test_the_least_length(self):
        seen = set()
        for machine in MACHINES:
            rows = plain_core(machine)
            for one, other in [*pairs_of(machine, 7, 12), *itertools.product(short_ones(machine.letters)[:8], repeat=2)]:
                told = far_length(machine, one, other)
                if told is None:
                    self.assertTrue(are_near(machine, one, other))
                    continue
                seen.add(told)
                self.assertFalse(are_near(machine, one, other))
                self.assertEqual(model_leaders(rows, one, other, told), [])
                self.assertNotEqual(model_leaders(rows, one, other, told - 1), [])
        self.assertGreater(len(seen), 6)

    def test_ends_of_great_lengths(self):
        one = Endless(2, "1").put("1" * 200).put("0" * 200)
        other = Endless(2, "10").put("1" * 200).put("0" * 200)
        self.assertEqual(far_length(ODD, one, other), 402)
        # Ends of all great lengths are far.
        for length in (402, 403, 1000, 99999, 100000):
            self.assertIs(is_near_paper(ODD, one, other, ("far", length)), True)
        for length in (0, 1, 400, 401):
            self.assertIs(is_near_paper(ODD, one, other, ("far", length)), False)

    def test_rings_that_hardly_part(self):
        for machine in MACHINES:
            ring = "0" * 11
            one, other = Endless(machine.letters, ring + "1"), Endless(machine.letters, "0" * 10 + "1")
            told = far_length(machine, one, other)
            self.assertEqual(told is None, are_near(machine, one, other))
            if told is not None:
                rows = plain_core(machine)
                self.assertEqual([bool(model_leaders(rows, one, other, length)) for length in (told - 1, told)], [True, False])


class Papers(Case):

    def test_told_ones_are_right(self):
        forms = {"near": 0, "far": 0}
        for machine in MACHINES:
            for one, other in pairs_of(machine, 8, 14):
                paper = near_paper(machine, one, other)
                forms[paper[0]] += 1
                self.assertIs(is_near_paper(machine, one, other, paper), True)
                self.assertEqual(paper[0] == "near", are_near(machine, one, other))
                # Its words are true of both texts.
                if paper[0] == "near":
                    _, move, length, loop = paper
                    self.assertIn(move, core(machine))
                    self.assertEqual([type(length), type(loop)], [int, int])
                    self.assertEqual(move(one.end(length)), other.end(length))
                    self.assertEqual((loop % len(one.ring), loop % len(other.ring)), (0, 0))
                    ahead = [far_text(each, length + loop)[:loop] for each in (one, other)]
                    if loop <= 200:
                        self.assertEqual(move(ahead[0]), ahead[1])
                        self.assertEqual(move.rest(ahead[0]), move)
                else:
                    self.assertEqual(model_leaders(plain_core(machine), one, other, paper[1]), [])
        self.assertGreater(min(forms.values()), 60)

    def model_paper(self, machine, one, other, value):
        """Whether a value is a paper, as the document says it."""
        rows = plain_core(machine)
        moves = core(machine)
        if value[0] == "far":
            return not model_leaders(rows, one, other, value[1])
        _, move, length, loop = value
        if move not in moves or length < max(len(one.tail), len(other.tail)) or loop < 1:
            return False
        if loop % len(one.ring) or loop % len(other.ring):
            return False
        place = moves.index(move)
        if place not in model_leaders(rows, one, other, length):
            return False
        ahead = [far_text(each, length + loop)[:loop] for each in (one, other)]
        led = ""
        for sign in ahead[0]:
            led += str(rows[place][0][int(sign)])
            place = rows[place][1][int(sign)]
        return led == ahead[1] and place == moves.index(move)

    def test_values_near_them(self):
        seen = {True: 0, False: 0}
        for machine in MACHINES[:10]:
            moves = core(machine)
            for one, other in pairs_of(machine, 9, 4):
                paper = near_paper(machine, one, other)
                if paper[0] == "far":
                    near = [("far", paper[1] + by) for by in (-2, -1, 0, 1, 50) if paper[1] + by >= 0]
                    near += [("near", move, 41, 60) for move in moves]
                else:
                    _, move, length, loop = paper
                    near = [("near", each, length, loop) for each in moves]
                    near += [("near", move, length + by, loop) for by in range(-2, 4) if length + by >= 0]
                    near += [("near", move, length, many) for many in (1, loop - 1, loop + 1, 2 * loop, 3 * loop, 12 * loop) if many > 0]
                    near += [("near", first_turned(machine.letters, tuple(range(machine.letters))[::-1]), length, loop)]
                    near += [("far", by) for by in (0, 1, 200)]
                for value in near:
                    told = self.model_paper(machine, one, other, value)
                    seen[told] += 1
                    self.assertIs(is_near_paper(machine, one, other, value), told, value)
        self.assertGreater(min(seen.values()), 80)

    def test_numbers_at_their_bounds(self):
        ones, zeros = Endless(2, "1"), Endless(2, "0")
        add = move_of(ODD, "a")
        for length, loop, told in ((0, 1, True), (100000, 100000, True), (100000, 1, True), (0, 100000, True), (100001, 1, False),
                                   (0, 100001, False), (0, 0, False), (-1, 1, False), (0, -1, False), (BIG, 1, False), (0, BIG, False)):
            self.assertIs(is_near_paper(ODD, ones, zeros, ("near", add, length, loop)), told)
        far = Endless(2, "10")
        for length, told in ((1, False), (2, True), (3, True), (100000, True), (100001, False), (-1, False), (BIG, False), (0, False)):
            self.assertIs(is_near_paper(ODD, ones, far, ("far", length)), told)
        # At least the tails, and a multiple of both rings.
        one, other = Endless(2, "1", tail="0"), Endless(2, "0", tail="1")
        self.assertIs(is_near_paper(ODD, one, other, ("near", add, 1, 1)), True)
        self.assertIs(is_near_paper(ODD, one, other, ("near", add, 0, 1)), False)
        one = Endless(2, "011", tail="")
        for loop, told in ((1, False), (2, False), (3, True), (4, False), (6, True), (99999, True), (100000, False)):
            self.assertIs(is_near_paper(ODD, one, one, ("near", idle(2), 0, loop)), told)

    def test_values_of_every_kind(self):
        ones, zeros, far = Endless(2, "1"), Endless(2, "0"), Endless(2, "10")
        add = move_of(ODD, "a")
        right = ("near", add, 0, 1)
        for value in [*VALUES, ones, list(right), right[:3], (*right, 1), ("near", "a", 0, 1), ("near", add, True, 1), ("near", add, False, 1),
                      ("near", add, 0, True), ("near", add, "0", 1), ("near", add, 0, None), ("near", ODD, 0, 1), ("near", move_of(counter(3), "a"), 0, 1),
                      ("near", ~add, 0, 1), ("near", add * add, 0, 1), ("near", None, 0, 1), ("near", (), 0, 1), ("near", ones, 0, 1), ("Near", add, 0, 1),
                      ("near",), ("far",), ("far", 2), ("far", 2, 2), ("far", None), ("far", True), ("far", "2"), ("far", (2,)), ((), 2), (["near"], add, 0, 1)]:
            self.assertIs(is_near_paper(ODD, ones, zeros, value), False, value)
            self.assertIs(is_near_paper(ODD, ones, far, value), value == ("far", 2), value)
        self.assertIs(is_near_paper(ODD, ones, zeros, right), True)
        self.assertIs(is_near_paper(ODD, ones, zeros, ("near", Move(2, ((1, 0), (1, 0)), ((0, 1), (1, 2)), ((0, 1), (2, 2))), 0, 1)), True)

    def test_numbers_that_are_too_great(self):
        zeros = Endless(2, "0")
        one = zeros
        for _ in range(500):
            one = one.put("01" * 100)
        self.assertEqual(len(one.tail), 99999)
        paper = near_paper(ODD, one, one)
        self.assertEqual((paper[0], paper[2] >= 99999), ("near", True))
        self.assertIs(is_near_paper(ODD, one, one, paper), True)
        one = one.put("1")
        self.assertIs(is_near_paper(ODD, one, one, near_paper(ODD, one, one)), True)
        far = zeros.put("01")
        for _ in range(499):
            far = far.put("01" * 100)
        far = far.put("01" * 99).put("1")
        self.assertEqual(len(far.tail), 100000)
        longer = one.put("1")
        self.assertEqual(len(longer.tail), 100001)
        self.refused_with(TooMany(100000), near_paper, ODD, longer, longer)
        self.assertIs(are_near(ODD, longer, longer), True)
        # Those that are far with shorter ends have a paper, however long their tails are.
        self.assertEqual(near_paper(ODD, longer, longer.put("0").put("0"))[0], "far")
        late = Endless(2, "01")
        for _ in range(500):
            late = late.put("1" * 200)
        other = Endless(2, "011")
        for _ in range(500):
            other = other.put("1" * 200)
        self.assertGreater(far_length(ODD, late, other), 100000)
        self.refused_with(TooMany(100000), near_paper, ODD, late, other)
        self.assertIs(is_near_paper(ODD, late, other, ("far", 100000)), False)

    def test_all_texts_that_may_be_passed_have_papers(self):
        chance = random.Random(10)
        for machine in (SIXTY, HANOI, *CIRCLES):
            for _ in range(6):
                parts = ["".join(chance.choice("0123"[:machine.letters]) for _ in range(size)) for size in (12, 40, 11, 40)]
                one, other = Endless(machine.letters, parts[0], tail=parts[1]), Endless(machine.letters, parts[2], tail=parts[3])
                for pair in ((one, one), (one, other), (one, Endless(machine.letters, one.ring[:-1] + one.ring[:1]))):
                    self.assertIs(is_near_paper(machine, *pair, near_paper(machine, *pair)), True)
        for one in near_ones(SIXTY, Endless(3, "000000000012")):
            for other in near_ones(SIXTY, one)[:6]:
                self.assertIs(is_near_paper(SIXTY, one, other, near_paper(SIXTY, one, other)), True)


class Refused(Case):

    def test_wrong_arguments(self):
        zeros, ones, threes = Endless(2, "0"), Endless(2, "1", tail="01"), Endless(3, "0")
        def then(args):
            state = loud_state(args[0])
            return None if state is None else Loud(state)
        for machine in (ODD, LAMP, LONG):
            right = [([machine], machine_place), ([zeros, ones], endless_place), ([zeros, ones], endless_place)]
            extra = [zeros, threes, Endless(4, "0"), "(0)"]
            for call in (end_moves, are_near, near_paper, far_length):
                hold_refusals(self, call, *right, then=then, extra=extra)
            hold_refusals(self, leaders, *right, ([0, 5, 200], number_place(0, 200)), then=then, extra=extra)
            hold_refusals(self, is_near_paper, *right, ([None, ("far", 1)], any_place), then=then, extra=extra)
            hold_refusals(self, near_ones, *right[:2], then=then, extra=extra)
            hold_refusals(self, near_groups, *right, ([ones], endless_place), then=then, extra=extra)

    def test_machines_with_great_cores(self):
        zeros = Endless(3, "0")
        for call in (end_moves, are_near, near_paper, far_length):
            self.refused_with(TooMany(60), call, MORE, zeros, zeros)
            self.refused(InvalidText, call, MORE, zeros, None)
        self.refused_with(TooMany(60), leaders, MORE, zeros, zeros, 3)
        self.refused_with(InvalidNumber(201), leaders, MORE, zeros, zeros, 201)
        self.refused_with(TooMany(60), is_near_paper, MORE, zeros, zeros, None)
        self.refused_with(TooMany(60), near_ones, MORE, zeros)
        self.refused_with(TooMany(60), near_groups, MORE, zeros)
        self.refused(InvalidMachine, near_groups, None)
        self.assertEqual(len(end_moves(SIXTY, zeros, zeros)) > 0, True)

    def test_nothing_is_changed(self):
        ones, zeros = Endless(2, "1"), Endless(2, "0")
        first = [near_ones(ODD, ones), near_paper(ODD, ones, zeros), near_groups(ODD, ones, zeros), far_length(ODD, ones, zeros)]
        again = [near_ones(ODD, ones), near_paper(ODD, ones, zeros), near_groups(ODD, ones, zeros), far_length(ODD, ones, zeros)]
        self.assertEqual(first, again)
        self.assertEqual([str(ones), str(zeros), str(ODD)], ["(1)", "(0)", "machine of 2 letters: a 10 e a, e 01 e e"])
        self.assertIsInstance(MACHINES[0], Machine)
