"""Busy numbers and kinds of moves, and the papers that show a kind."""

import itertools
import random
from math import lcm

from support import (
    BIG, FOLDED, GRAY, HANOI, LAMP, LONG, ODD, STAY, SWAP, VALUES, Case, all_texts, circle_move,
    random_moves, ring_move, short_texts,
)
from textmovers.errors import InvalidMachine, InvalidMove, InvalidNumber, InvalidOperation, TooMany
from textmovers.grow.busy import busy, busy_row, busy_sum, is_kind_paper, is_quiet, kind, kind_paper, loud_state
from textmovers.machine.known import counter
from textmovers.machine.machines import Machine
from textmovers.move.moves import Move, first_turned, idle, joined_move, move_of

LATE = move_of(LONG, "c")
LAMP_A = move_of(LAMP, "a")


def sparse_moves(seed, letters, many=40, most=7):
    """Moves by chance most of whose next rows are idle, so that they are of all kinds."""
    chance = random.Random(seed)
    found = []
    for _ in range(many):
        rows = chance.randint(1, most)
        told = []
        for _ in range(rows):
            turn = list(range(letters))
            if chance.random() < 0.6:
                chance.shuffle(turn)
            told.append((tuple(turn), tuple(
                rows if chance.random() < 0.55 else chance.randrange(rows) for _ in range(letters)
            )))
        told.append((tuple(range(letters)), (rows,) * letters))
        found.append(Move(letters, *told))
    return found


def moves():
    """Moves of all kinds and numbers of letters."""
    found = [move for letters in (2, 3, 4) for move in sparse_moves(letters, letters)]
    found += [move for letters in (2, 3) for move in random_moves(letters, letters, 4, 4)]
    found += [move_of(machine, state) for machine in (ODD, GRAY, HANOI, FOLDED, LAMP, LONG) for state in machine]
    # The last ones turn each letter alike.
    return found + [idle(letters) for letters in (2, 3, 4)] + [circle_move(5), ring_move(6), ring_move(1), ring_move(1, 4)]


def idle_rests(move):
    """For each row of the least form whether it is the idle one."""
    return [rest.is_idle for rest in move.rests()]


def counts_by_rests(move, length):
    """The busy numbers to this length, by how often each rest stands behind the texts."""
    rests = idle_rests(move)
    counts = [1] + [0] * (len(rests) - 1)
    told = []
    for _ in range(length + 1):
        told.append(sum(many for many, still in zip(counts, rests) if not still))
        after = [0] * len(rests)
        for many, (_, nexts) in zip(counts, move.rows):
            for behind in nexts:
                after[behind] += many
        counts = after
    return told


def model_kind(move):
    """The kind by the loops of the rests: ("shallow",), ("degree", d) or ("loud",)."""
    still = idle_rests(move)
    busy_rows = [row for row in range(len(move)) if not still[row]]
    reach = {(one, two): two in move.rows[one][1] for one in busy_rows for two in busy_rows}
    for mid, one, two in itertools.product(busy_rows, repeat=3):
        if reach[one, mid] and reach[mid, two]:
            reach[one, two] = True
    loops = [row for row in busy_rows if reach[row, row]]
    for row in loops:
        if sum(behind in busy_rows and (behind == row or reach[behind, row]) for behind in move.rows[row][1]) > 1:
            return ("loud",)

    def chain(row):
        """The greatest number of rests with loops, each reached from the one before only, this one first."""
        after = [two for two in loops if reach[row, two] and not reach[two, row]]
        return 1 + max([chain(two) for two in after], default=0)

    longest = max([chain(row) for row in loops], default=0)
    return ("shallow",) if longest == 0 else ("degree", longest - 1)


def whole(value):
    return type(value) is int


def is_model_text(letters, value):
    return type(value) is str and len(value) <= 200 and all(sign in "0123"[:letters] for sign in value)


def model_ranking(move, value):
    """What the document says of a ranking."""
    still = idle_rests(move)
    rows = [row for row in range(len(move)) if not still[row]]
    if type(value) is not dict or any(not whole(key) for key in value) or sorted(value) != rows:
        return False
    for pair in value.values():
        if type(pair) is not tuple or len(pair) != 2 or not all(whole(part) and part >= 0 for part in pair):
            return False
    for row in rows:
        behind = [value[one] for one in move.rows[row][1] if not still[one]]
        same = [pair for pair in behind if pair == value[row]]
        falls = all(pair < value[row] for pair in behind)
        goes_on = value[row][0] >= 1 and len(same) == 1 and all(
            pair[0] < value[row][0] for pair in behind if pair != value[row]
        )
        if not falls and not goes_on:
            return False
    return True


def model_loop(rest, value):
    """What the document says of a loop of a rest."""
    return not rest.is_idle and is_model_text(rest.letters, value) and value != "" and rest.rest(value) == rest


def model_kind_paper(move, value):
    """What the document says of a paper of a kind."""
    if type(value) is not tuple or not value or type(value[0]) is not str:
        return False
    if value[0] == "shallow":
        return len(value) == 2 and model_ranking(move, value[1]) and value[1].get(0, (0, 0))[0] == 0
    if value[0] == "degree":
        if len(value) != 3 or not model_ranking(move, value[2]) or type(value[1]) is not tuple:
            return False
        depths, rest = [], move
        for pair in value[1]:
            if type(pair) is not tuple or len(pair) != 2 or not is_model_text(move.letters, pair[0]):
                return False
            rest = rest.rest(pair[0])
            if not model_loop(rest, pair[1]):
                return False
            depths.append(value[2][move.rests().index(rest)][0])
        falling = all(one > two for one, two in zip(depths, depths[1:]))
        return len(depths) >= 1 and falling and len(depths) == value[2].get(0, (0, 0))[0]
    if value[0] == "loud":
        if len(value) != 4 or not is_model_text(move.letters, value[1]):
            return False
        rest, one, other = move.rest(value[1]), value[2], value[3]
        both = model_loop(rest, one) and model_loop(rest, other)
        return both and not one.startswith(other) and not other.startswith(one)
    return False


class BusyNumbers(Case):

    def test_against_all_texts(self):
        for move in moves():
            for length in range(7 if move.letters == 2 else 4):
                told = sum(not move.rest(text).is_idle for text in all_texts(move.letters, length))
                self.assertEqual(busy(move, length), told)

    def test_to_two_hundred_letters_and_sums(self):
        for move in moves():
            told = counts_by_rests(move, 200)
            self.assertEqual([busy(move, length) for length in (0, 1, 2, 9, 50, 199, 200)],
                             [told[length] for length in (0, 1, 2, 9, 50, 199, 200)])
            for length in (0, 1, 2, 30, 200):
                self.assertEqual(busy_sum(move, length), sum(told[:length + 1]))

    def test_by_the_rests_behind_the_letters(self):
        for move in moves():
            for length in (1, 2, 3, 20, 200):
                rests = [move.rest(str(letter)) for letter in range(move.letters)]
                self.assertEqual(busy(move, length), sum(busy(rest, length - 1) for rest in rests))

    def test_undone_and_products(self):
        for letters in (2, 3):
            some = sparse_moves(letters + 5, letters, 12, 4)
            for one, other in itertools.product(some, repeat=2):
                for length in (0, 1, 2, 3, 7, 40):
                    self.assertEqual(busy(~one, length), busy(one, length))
                    self.assertLessEqual(busy(one * other, length), busy(one, length) + busy(other, length))

    def test_great_ones(self):
        self.assertEqual(busy(LAMP_A, 200), 2 ** 200)
        self.assertEqual(busy_sum(LAMP_A, 200), 2 ** 201 - 1)
        self.assertEqual(busy(ring_move(60, 4), 200), 4 ** 200)
        self.assertEqual([busy(idle(4), length) for length in (0, 1, 200)], [0, 0, 0])

    def test_wrong_arguments(self):
        for call in (busy, busy_sum):
            for value in VALUES:
                if not isinstance(value, Move):
                    self.refused(InvalidMove, call, value, 3)
                    self.refused(InvalidMove, call, value, value)
                if type(value) is not int or not 0 <= value <= 200:
                    self.refused_with(InvalidNumber(value), call, LATE, value)
            self.assertEqual(call(idle(2), 200), 0)


class Kinds(Case):

    def test_against_loops(self):
        met = set()
        for move in moves():
            told, model = kind(move), model_kind(move)
            met.add(told[:2] if told[0] == "degree" else told[:1])
            if model == ("shallow",):
                numbers = counts_by_rests(move, 70)
                self.assertEqual(told[0], "shallow")
                self.assertEqual(numbers[told[1]:], [0] * len(numbers[told[1]:]))
                self.assertTrue(told[1] == 0 or numbers[told[1] - 1] > 0)
            elif model == ("degree", 0):
                self.assertEqual(told, ("quiet", max(counts_by_rests(move, 200))))
            else:
                self.assertEqual(told, model)
        self.assertLessEqual({("shallow",), ("quiet",), ("degree", 1), ("loud",)}, met)

    def test_degrees(self):
        move = move_of(ODD, "a")
        for degree in range(1, 59):
            move = Move(2, (STAY, (0, 1)), *[(turn, tuple(one + 1 for one in nexts)) for turn, nexts in move.rows])
            self.assertEqual(kind(move), ("degree", degree))
            if len(move) < 60:
                self.assertEqual(kind(joined_move(SWAP, move, idle(2))), ("degree", degree))
            paper = kind_paper(move)
            self.assertEqual((paper[0], len(paper[1])), ("degree", degree + 1))
            self.assertIs(is_kind_paper(move, paper), True)
        self.assertEqual(len(move), 60)

    def test_long_shallow_ones(self):
        for many in (1, 2, 30, 59):
            rows = [(STAY, (at + 1, many)) for at in range(many - 1)] + [(SWAP, (many, many)), (STAY, (many, many))]
            self.assertEqual(kind(Move(2, *rows)), ("shallow", many))
            self.assertEqual(busy_row(Move(2, *rows)), ((1,) * many, (0,)))
        self.assertEqual([kind(idle(letters)) for letters in (2, 3, 4)], [("shallow", 0)] * 3)
        self.assertEqual(kind(first_turned(4, (1, 2, 3, 0))), ("shallow", 1))

    def test_growing_sums(self):
        # Added up to n, the busy numbers of a degree d grow as n to the power d + 1.
        for move in moves():
            told = kind(move)
            if told[0] == "degree":
                power = told[1] + 1
                self.assertLess(busy_sum(move, 200), 3 ** power * busy_sum(move, 100) + 1000)
                self.assertGreater(busy_sum(move, 200) * 3, 2 ** power * busy_sum(move, 100))
            if told[0] == "quiet":
                self.assertLessEqual(max(busy(move, length) for length in range(201)), told[1])

    def test_the_degree_one_need_not_grow_by_one(self):
        move = joined_move(SWAP, LATE, LATE)
        self.assertEqual(kind(move), ("degree", 1))
        self.assertEqual([busy(move, length) for length in range(5)], [1, 2, 4, 6, 8])

    def test_quiet_machines(self):
        for machine in [ODD, GRAY, HANOI, FOLDED, counter(4)]:
            self.assertIs(is_quiet(machine), True)
            self.assertIsNone(loud_state(machine))
        for machine, state in ((LAMP, "a"), (LONG, "c"), (LONG.renamed({"a": "z", "c": "d"}), "d")):
            self.assertIs(is_quiet(machine), False)
            self.assertEqual(loud_state(machine), state)

    def test_the_first_state_to_blame(self):
        chance = random.Random(4)
        for letters in (2, 3):
            for move in sparse_moves(letters + 8, letters, 60, 6):
                names = chance.sample("abcdefgh", len(move))
                machine = Machine(letters, {
                    name: (turn, tuple(names[one] for one in nexts)) for name, (turn, nexts) in zip(names, move.rows)
                })
                loud = [name for name in sorted(names) if model_kind(move_of(machine, name)) not in
                        (("shallow",), ("degree", 0))]
                self.assertEqual(loud_state(machine), loud[0] if loud else None)
                self.assertIs(is_quiet(machine), not loud)

    def test_wrong_arguments(self):
        for value in VALUES:
            if not isinstance(value, Move):
                for call in (kind, busy_row, kind_paper):
                    self.refused(InvalidMove, call, value)
            if not isinstance(value, Machine):
                self.refused(InvalidMachine, is_quiet, value)
                self.refused(InvalidMachine, loud_state, value)


def two_circles(one, other, ahead):
    """A quiet move with two circles of so many rows behind a way of so many rows."""
    move = joined_move(SWAP, circle_move(one), circle_move(other))
    for _ in range(ahead):
        move = joined_move(STAY, move, idle(2))
    return move


class Rows(Case):

    def test_as_short_as_possible(self):
        for move in moves():
            if kind(move)[0] in ("shallow", "quiet"):
                ahead, again = busy_row(move)
                told = counts_by_rests(move, 300)
                self.assertTrue(again)
                self.assertTrue(type(ahead) is type(again) is tuple)
                many = len(ahead)
                self.assertEqual([*ahead, *(again[at % len(again)] for at in range(301 - many))], told)
                if ahead:
                    self.assertNotEqual(ahead[-1], again[-1])
                for size in range(1, len(again)):
                    self.assertFalse(len(again) % size == 0 and again == again[:size] * (len(again) // size))

    def test_different_rounds(self):
        for one, other in ((2, 3), (4, 6), (5, 5), (1, 7), (9, 8)):
            move = two_circles(one, other, 2)
            ahead, again = busy_row(move)
            told = counts_by_rests(move, 200)
            self.assertEqual([*ahead, *again * 200][:201], told)
            self.assertLessEqual(len(again), lcm(one, other))
        uneven = Move(2, (STAY, (1, 3)), (STAY, (0, 2)), (SWAP, (3, 3)), (STAY, (3, 3)))
        self.assertEqual([busy(uneven, length) for length in range(6)], [1, 1, 2, 1, 2, 1])
        self.assertEqual(busy_row(uneven), ((1,), (1, 2)))
        self.assertEqual(kind(uneven), ("quiet", 2))

    def test_rounds_that_begin_at_once(self):
        # Row 0 does not come again, but its numbers are those of row 2.
        rows = ((SWAP, (1, 3)), (STAY, (2, 4)), (STAY, (1, 3)), (SWAP, (4, 4)), (STAY, (4, 4)))
        self.assertEqual(len(Move(2, *rows)), 5)
        self.assertEqual(busy_row(Move(2, *rows)), ((), (1, 2)))
        rows = ((SWAP, (1, 4)), (STAY, (2, 5)), (STAY, (3, 5)), (STAY, (1, 4)), (SWAP, (5, 5)), (STAY, (5, 5)))
        self.assertEqual(busy_row(Move(2, *rows)), ((), (1, 2, 1)))

    def test_five_hundred(self):
        # The numbers of the rests come again after 496 letters, from the length ahead + 1 on.
        for ahead in (0, 1, 2, 3):
            move = two_circles(16, 31, ahead)
            self.assertEqual(busy_row(move), ((1,) * (ahead + 1), (2,)))
            self.assertEqual(kind(move), ("quiet", 2))
        for ahead in (4, 5, 9):
            self.refused_with(TooMany(500), busy_row, two_circles(16, 31, ahead))
            self.refused_with(TooMany(500), kind, two_circles(16, 31, ahead))
            paper = kind_paper(two_circles(16, 31, ahead))
            self.assertEqual(paper[0], "degree")
            self.assertTrue(model_kind_paper(two_circles(16, 31, ahead), paper))
        self.refused_with(TooMany(500), kind, two_circles(22, 23, 0))
        self.assertEqual(kind(two_circles(21, 23, 0)), ("quiet", 2))

    def test_many_circles_have_no_number_but_other_kinds_have(self):
        great = joined_move((0, 1, 2, 3), *[circle_move(many, 4) for many in (11, 13, 14, 15)])
        self.refused_with(TooMany(500), kind, great)
        self.refused_with(TooMany(500), busy_row, great)
        # Of a greater degree, or loud: there the numbers of the rests are not asked for.
        later = Move(4, ((0, 1, 2, 3), (0, 1, 1, 1)), *[
            (turn, tuple(one + 1 for one in nexts)) for turn, nexts in great.rows
        ])
        self.assertEqual(kind(later), ("degree", 1))
        self.refused(InvalidOperation, busy_row, later)
        self.assertEqual(kind_paper(great)[0], "degree")

    def test_no_rows_of_other_kinds(self):
        for move in [LATE, LAMP_A, *moves()]:
            if kind(move)[0] in ("degree", "loud"):
                self.refused(InvalidOperation, busy_row, move)

    def test_bounds(self):
        self.assertEqual(busy_row(circle_move(59)), ((), (1,)))
        self.assertEqual(kind(circle_move(59)), ("quiet", 1))
        self.assertEqual(kind(ring_move(60)), ("loud",))
        self.assertEqual(kind(ring_move(60, 4)), ("loud",))


class Papers(Case):

    def test_papers_that_are_told(self):
        forms = set()
        for move in moves():
            paper = kind_paper(move)
            forms.add(paper[0])
            told = model_kind(move)
            self.assertEqual(paper[0], told[0])
            self.assertTrue(model_kind_paper(move, paper), paper)
            self.assertIs(is_kind_paper(move, paper), True)
            if paper[0] == "degree":
                self.assertEqual(len(paper[1]), told[1] + 1)
            if paper[0] != "loud":
                self.assertEqual(list(paper[-1]), sorted(paper[-1]))
            self.assertEqual(kind_paper(move), paper)
        self.assertEqual(forms, {"shallow", "degree", "loud"})

    def test_papers_share_nothing(self):
        move = move_of(GRAY, "b")
        kind_paper(move)[-1].clear()
        self.assertEqual(kind_paper(move)[-1], {0: (1, 0), 1: (0, 0)})

    def near(self, chance, move, paper):
        """Values near a paper: other ranks, texts and loops, parts exchanged, left out and put in."""
        letters = "0123"[:move.letters]
        rankings = [part for part in paper if type(part) is dict]
        for ranking in rankings:
            for key in ranking:
                depth, place = ranking[key]
                for pair in [(depth + 1, place), (depth - 1, place), (depth, place + 1), (depth, place - 1),
                             (BIG * BIG, place), (depth, BIG), (depth,), (depth, place, 0), [depth, place],
                             (True, place), (depth, False), None, (str(depth), place)]:
                    yield tuple({**part, key: pair} if part is ranking else part for part in paper)
                less = {one: ranking[one] for one in ranking if one != key}
                yield tuple(less if part is ranking else part for part in paper)
                if key in (0, 1):
                    yield tuple({**less, bool(key): (depth, place)} if part is ranking else part for part in paper)
            higher = {key: (depth + 1, place) for key, (depth, place) in ranking.items()}
            wider = {key: (depth, place * 3 + 5) for key, (depth, place) in ranking.items()}
            for other in [{**ranking, len(move): (0, 0)}, {**ranking, -1: (0, 0)}, higher, wider,
                          dict(reversed(ranking.items())), list(ranking.items()), (), None, {}]:
                yield tuple(other if part is ranking else part for part in paper)
        if paper[0] == "degree":
            chain = paper[1]
            for at, (text, loop) in enumerate(chain):
                for pair in [(text + loop, loop), (text, loop * 2), (text, loop[:-1]), (text, ""), (text, loop + text),
                             (text + chance.choice(letters), loop), (text, loop + chance.choice(letters)),
                             (text, loop * 201), (text + "9", loop), (text,), (text, loop, ""), [text, loop], text, None,
                             (loop, text), (text, loop[1:] + loop[:1]), (text + loop[:1], loop[1:] + loop[:1])]:
                    yield ("degree", (*chain[:at], pair, *chain[at + 1:]), paper[2])
                yield ("degree", chain[:at] + chain[at + 1:], paper[2])
                yield ("degree", chain[:at] + chain[at:at + 1] * 2 + chain[at + 1:], paper[2])
            for value in [(), list(chain), None, chain[::-1]]:
                yield ("degree", value, paper[2])
            yield ("shallow", paper[2])
        if paper[0] == "loud":
            _, text, one, other = paper
            for value in [(text, other, one), (text, one, one), (text, one, one + other), (text, one + other, other + one),
                          (text + one, other, one), (text, "", other), (text, one, None), (text, one, other, other),
                          (text, one), (None, one, other), (text, one * 200, other), (text + "x", one, other),
                          (text, one + chance.choice(letters), other), (text + chance.choice(letters), one, other)]:
                yield ("loud", *value)
        for value in VALUES:
            yield value
            yield (paper[0], value)
            yield (*paper, value)
            yield (value, *paper[1:])
        yield list(paper)
        yield paper[:-1]
        yield paper[1:]
        for form in ("shallow", "degree", "loud", "Loud", "quiet", ""):
            yield (form, *paper[1:])

    def test_values_near_papers(self):
        chance = random.Random(2)
        told = {True: 0, False: 0}
        some = moves()
        for move in some[::3] + some[-12:]:
            paper = kind_paper(move)
            for value in self.near(chance, move, paper):
                judged = is_kind_paper(move, value)
                self.assertIs(judged, model_kind_paper(move, value), (move.rows, value))
                told[judged] += 1
        self.assertGreater(told[True], 100)
        self.assertGreater(told[False], 1000)

    def test_papers_of_other_moves(self):
        some = [move for move in moves() if move.letters == 2][::2]
        for one, other in itertools.product(some, repeat=2):
            paper = kind_paper(other)
            self.assertIs(is_kind_paper(one, paper), model_kind_paper(one, paper))

    def test_all_small_rankings(self):
        for move in (move_of(ODD, "a"), move_of(GRAY, "b"), LATE, LAMP_A, idle(2), first_turned(2, SWAP)):
            rows = [row for row, still in enumerate(idle_rests(move)) if not still]
            pairs = list(itertools.product(range(3), range(2)))
            for ranks in itertools.product(pairs, repeat=len(rows)):
                ranking = dict(zip(rows, ranks))
                self.assertIs(is_kind_paper(move, ("shallow", ranking)), model_kind_paper(move, ("shallow", ranking)))
                for chain in [(("", "0"),), (("", "1"),), (("", "0"), ("1", "1")), (("", "0"), ("", "0")), ()]:
                    value = ("degree", chain, ranking)
                    self.assertIs(is_kind_paper(move, value), model_kind_paper(move, value))

    def test_just_one_form(self):
        for move in moves():
            ranking = kind_paper(move)[-1]
            told = [any(is_kind_paper(move, paper) for paper in papers) for papers in (
                [("shallow", ranking)], [("loud", "", "0", "1"), ("loud", "", "00", "01")],
                [("degree", chain, ranking) for chain in ((("", "0"),), (("", "1"),), (("", "0"), ("1", "1")))],
            )]
            self.assertLessEqual(sum(told), 1)

    def test_moves_come_first(self):
        for value in VALUES:
            if not isinstance(value, Move):
                self.refused(InvalidMove, is_kind_paper, value, value)
                self.refused(InvalidMove, is_kind_paper, value, ("shallow", {}))

    def test_all_pairs_of_short_loops(self):
        texts = short_texts(2, 3)
        for text, one, other in itertools.product(texts[:3], texts, texts):
            value = ("loud", text, one, other)
            for move in (LAMP_A, LATE, ring_move(2)):
                self.assertIs(is_kind_paper(move, value), model_kind_paper(move, value))
