"""What the document promises over the whole program."""

import importlib
import inspect
import itertools
import unittest

from support import FLIP, FOLDED, GRAY, HANOI, LAMP, LONG, ODD, VALUES, Case, all_texts, quiet_machines, random_moves
from test_interface import INTERFACE
from textmovers.core.cores import core, core_paper, is_core_move, is_core_paper
from textmovers.core.outlines import is_outline, outline, outline_move, outline_of, outline_power
from textmovers.endless.near import end_moves, is_near_paper, near_ones, near_paper
from textmovers.endless.texts import Endless
from textmovers.errors import InvalidMachine, TooMany
from textmovers.grow.busy import is_kind_paper, is_quiet, kind, kind_paper
from textmovers.level.depths import depth_pair, is_depth_pair, rotation_sum
from textmovers.level.levels import is_level_turn, level_turn, piece_of, pieces
from textmovers.machine.known import counter
from textmovers.machine.machines import Machine
from textmovers.move.alike import alike_paper, are_alike, is_alike_paper, machine_of, merged
from textmovers.move.moves import Move, idle, joined_move, move_of
from textmovers.move.words import first_words, is_word, led, way_of, word_move
from textmovers.ring.orders import is_order_paper, order, order_paper
from textmovers.ring.rings import ring_rests, ring_texts
from textmovers.ring.rounds import first_stop, is_round_paper, round_paper, round_rests
from textmovers.shop.shop import Shop
from textmovers.text.formats import read_machine, read_move, read_value, write_machine, write_move, write_value
from textmovers.text.shell import Shell
from textmovers.text.shops import read_shop, write_shop
from textmovers.way.ways import end_ways, ends, fewest, is_short_word, short_word

QUIET = [ODD, GRAY, HANOI, FOLDED, FLIP, counter(3), *quiet_machines(91, 8, sizes=(2, 3, 4))]
MACHINES = [*QUIET, LAMP, LONG]


def seen(value):
    """All that a value tells of itself, so that a change of it shows."""
    if isinstance(value, (Machine, Move, Endless)):
        return str(value)
    if isinstance(value, Shop):
        return str(value), list(value), seen(value.words), seen(value.promises), value.twin().undo(many=0)
    if isinstance(value, Shell):
        return seen(value.shop())
    if isinstance(value, (tuple, list)):
        return type(value).__name__, [seen(part) for part in value]
    if isinstance(value, dict):
        return "dict", [(seen(key), seen(value[key])) for key in value]
    return repr(value)


def sample_shop():
    shop = Shop(HANOI)
    shop.keep("one", (("a", 1), ("b", 1)))
    shop.promise("p", ("round", "one"))
    return shop


ADD = move_of(ODD, "a")
WORD = (("a", 2), ("b", -1), ("c", 1))

# Arguments for each parameter by its name, and other ones for the functions that ask for others.
SAMPLES = {
    "machine": HANOI, "one_machine": GRAY, "other_machine": FOLDED, "state": "a", "one_state": "b", "other_state": "a", "move": word_move(HANOI, WORD),
    "other_move": move_of(HANOI, "b"), "text": "012", "other_text": "210", "word": WORD, "other_word": (("a", -2),), "letters": 3, "length": 2, "index": 5,
    "turn": (1, 2, 0), "value": (("a", 1),), "names": {"a": "x"}, "states": {"a": ((0, 1, 2), ("a", "a", "a"))}, "name": "x", "number": 3, "steps": 2, "pattern": ("a", "e"),
    "most": 2, "endless": Endless(3, "2", tail="01"), "other_endless": Endless(3, "2", tail="11"), "outline": outline(HANOI, WORD), "other_outline": outline(HANOI, (("b", 1),)),
    "place": 4, "ring": "01", "tail": "1", "shop": sample_shop(), "string": "letters 2\nstate a 10 a a", "limit": 60, "many": 3, "label": "p", "rows": ((0, 1, 2), (0, 0, 0)),
}
OTHERS = {
    "count": {"machine": ODD, "word": (("a", 5),)}, "rotation": {"machine": ODD, "word": (("a", 5),), "text": "010"}, "rotation_sum": {"machine": GRAY, "text": "01"},
    "are_same": {"machine": ODD, "word": (("a", 2),), "other_word": ()}, "depth": {"machine": GRAY}, "zero_sizes": {"machine": LAMP}, "depth_pair": {"machine": LAMP, "most": 1},
    "is_depth_pair": {"machine": LAMP, "most": 1, "value": ((("a", 2),), ())}, "level_sum": {"move": ADD}, "stop_by_sums": {"move": ADD}, "busy_row": {"move": ADD},
    "place_in_round": {"move": ADD, "text": "01"}, "text_in_round": {"move": ADD, "place": 3}, "machine_of": {"move": ADD, "names": ("x", "y")},
    "read_move": {"string": "letters 2\nrow 01 0 0"}, "read_value": {"string": "( 1 { =a 2 } )"}, "read_shop": {"string": write_shop(sample_shop())},
    "is_text": {"value": "01"}, "is_turn": {"value": (0, 1, 2)}, "Endless": {"letters": 2}, "outline_of": {"move": move_of(HANOI, "a")}, "is_core_move": {"move": move_of(HANOI, "a")},
}
STARS = {"near_groups": (Endless(3, "2", tail="01"), Endless(3, "0")), "joined_move": (idle(3), move_of(HANOI, "a"), idle(3)), "Move": (((0, 1, 2), (0, 0, 0)),),
         "joined_outline": (outline(HANOI, ()), outline(HANOI, WORD), outline(HANOI, ()))}


def calls():
    """Each function and class of the interface with arguments that are right."""
    for module, told in INTERFACE.items():
        for line in told:
            name = line.partition("(")[0]
            call = vars(importlib.import_module(module))[name]
            if module == "textmovers.errors":
                continue
            args, more = [], {}
            for parameter in inspect.signature(call).parameters.values():
                value = OTHERS.get(name, {}).get(parameter.name, SAMPLES.get(parameter.name))
                if parameter.kind is parameter.VAR_POSITIONAL:
                    args.extend(STARS[name])
                elif parameter.kind is parameter.KEYWORD_ONLY:
                    more[parameter.name] = value
                else:
                    args.append(value)
            yield name, call, args, more


class Calls(Case):

    def test_nothing_that_is_passed_is_changed_and_equal_calls_are_equal(self):
        names = []
        for name, call, args, more in calls():
            names.append(name)
            with self.subTest(call=name):
                before = seen([args, more])
                first = call(*args, **more)
                if inspect.isgenerator(first):
                    first = list(first)
                told = seen(first)
                again = call(*args, **more)
                again = list(again) if inspect.isgenerator(again) else again
                self.assertEqual(seen(again), told)
                self.assertEqual(seen([args, more]), before)
                # What comes back is nobody else's.
                if isinstance(first, dict):
                    first.clear()
                    self.assertEqual(seen(call(*args, **more)), told)
        self.assertEqual(len(names), sum(len(told) for module, told in INTERFACE.items() if module != "textmovers.errors"))

    def test_judging_functions_answer_true_or_false(self):
        for name, call, args, more in calls():
            if name.startswith(("is_", "are_", "has_")):
                self.assertIsInstance(call(*args, **more), bool, name)

    def test_judging_functions_take_every_value(self):
        every = [*VALUES, Endless(2, "0"), sample_shop(), Shell(ODD), word_move(HANOI, WORD), core_paper(ODD), kind_paper(ADD), order_paper(ADD), round_paper(ADD),
                 outline(HANOI, WORD), near_paper(ODD, Endless(2, "0"), Endless(2, "1"))]
        judges = 0
        for name, call, args, more in calls():
            names = list(inspect.signature(call).parameters)
            if "value" in names and name.startswith("is_"):
                judges += 1
                for value in every:
                    args[names.index("value")] = value
                    self.assertIsInstance(call(*args), bool, name)
        self.assertEqual(judges, 14)

    def test_too_few_and_too_many_arguments(self):
        for name, call, args, more in calls():
            if name in ("Move", "joined_move", "joined_outline", "near_groups"):
                continue
            with self.assertRaises(TypeError, msg=name):
                result = call(*args, None, None, **more)
                list(result)

    def test_only_what_is_told_is_iterated_over(self):
        for value in (ADD, Endless(2, "0"), Shell(ODD), sample_shop().trial()):
            with self.assertRaises(TypeError):
                iter(value)
            with self.assertRaises(TypeError):
                list(value)
        self.assertEqual((list(HANOI), list(sample_shop())), (["a", "b", "c", "e"], ["one"]))

    def test_equal_to_every_value(self):
        kinds = [ODD, ADD, Endless(2, "0"), sample_shop(), Shell(ODD)]
        for one, other in itertools.product(kinds, [*VALUES, *kinds]):
            told = one == other
            self.assertIs(type(told), bool)
            self.assertIs(one != other, not told)
            if type(one) is not type(other):
                self.assertIs(told, False)


class Papers(Case):

    def moves(self):
        return [move_of(machine, state) for machine in MACHINES for state in machine] + [word_move(HANOI, WORD), ADD * ADD, *random_moves(92, 2, 8, 4)]

    def test_papers_of_moves_are_judged_right_by_all_moves(self):
        moves = {move.rows: move for move in self.moves() if move.letters == 2}.values()
        right = {"kind": 0, "order": 0, "round": 0}
        for move in moves:
            for name, make, judge, truth in (("kind", kind_paper, is_kind_paper, lambda one: kind(one)[0]), ("order", order_paper, is_order_paper, order),
                                             ("round", round_paper, is_round_paper, lambda one: first_stop(one) is None)):
                try:
                    paper = make(move)
                except TooMany:
                    continue
                self.assertIs(judge(move, paper), True)
                self.assertIs(judge(move, read_value(write_value(paper))), True)
                for other in moves:
                    try:
                        told, true = judge(other, paper), truth(other)
                    except TooMany:
                        continue
                    right[name] += told
                    if not told:
                        continue
                    # A right paper shows its statement of whichever move it is judged by.
                    if name == "kind":
                        form = {"quiet": "degree"}.get(true, true)
                        self.assertEqual(paper[0], form)
                    elif name == "order":
                        self.assertEqual(paper[1] if paper[0] == "order" else None, true)
                    else:
                        self.assertEqual(paper[0] == "round", true)
        self.assertGreater(min(right.values()), len(moves) // 2)

    def test_papers_of_cores(self):
        for machine, other in itertools.product(QUIET, repeat=2):
            try:
                paper = core_paper(machine)
                told = is_core_paper(other, paper)
            except TooMany:
                continue
            if machine == other:
                self.assertIs(told, True)
                self.assertIs(is_core_paper(machine, read_value(write_value(paper))), True)
                self.assertIs(is_core_paper(read_machine(write_machine(machine)), paper), True)
            elif told:
                self.assertEqual(len(core(machine)), len(core(other)))

    def test_papers_of_states(self):
        for machine, other in itertools.product([one for one in MACHINES if one.letters == 2], repeat=2):
            for one, two in itertools.product(machine, other):
                paper = alike_paper(machine, one, other, two)
                self.assertIs(is_alike_paper(machine, one, other, two, read_value(write_value(paper))), True)
                self.assertEqual(paper[0] == "alike", are_alike(machine, one, other, two))
                for third in MACHINES[:3]:
                    if third.letters == 2 and is_alike_paper(third, "a", other, two, paper):
                        self.assertEqual(paper[0] == "alike", are_alike(third, "a", other, two))

    def test_papers_of_near_texts(self):
        ends_of = [Endless(2, ring, tail=tail) for ring in ("0", "1", "01") for tail in ("", "1", "10")]
        for machine, (one, other) in itertools.product((ODD, GRAY, FOLDED), itertools.product(ends_of, repeat=2)):
            paper = near_paper(machine, one, other)
            self.assertIs(is_near_paper(machine, one, other, read_value(write_value(paper))), True)
            for third in (ODD, GRAY, FOLDED):
                if is_near_paper(third, one, other, paper):
                    self.assertEqual(paper[0], near_paper(third, one, other)[0])


class BetweenStages(Case):

    def test_values_of_one_stage_are_taken_by_others(self):
        for machine in QUIET:
            try:
                moves = core(machine)
            except TooMany:
                continue
            for move in moves[:6]:
                self.assertIn(kind(move)[0], ("shallow", "quiet"))
                self.assertEqual(read_move(write_move(move)), move)
                self.assertTrue(is_core_move(machine, move))
                self.assertEqual(outline_of(machine, move)[1], ())
                if len(move) <= 8:
                    again = machine_of(move, tuple("abcdefgh"[:len(move)]))
                    self.assertEqual(move_of(again, "a"), move)
                    self.assertTrue(is_quiet(again))
                for one in round_rests(move)[:2]:
                    self.assertIs(one == move or one.letters == move.letters, True)
            for one, move in first_words(machine, 1):
                self.assertEqual(word_move(machine, one), move)
                told = outline(machine, one)
                self.assertIs(is_outline(machine, told), True)
                self.assertEqual(outline_move(machine, told), move)
                self.assertIs(is_outline(machine, outline_power(machine, told, 2)), True)
                self.assertEqual(read_value(write_value(told)), told)

    def test_merged_and_undone_machines(self):
        for machine in QUIET:
            least = merged(machine)
            self.assertEqual(write_machine(read_machine(write_machine(least))), write_machine(least))
            self.assertEqual(~~machine, machine)
            for text, other in (("00", "10"), ("01", "11")):
                self.assertEqual(fewest(machine, text, other), fewest(least, text, other))
                self.assertEqual(fewest(machine, text, other), fewest(~machine, text, other))
            self.assertEqual(ends(machine, 3), ends(~machine, 3))
            self.assertEqual(end_ways(machine, 3), end_ways(least, 3))

    def test_pieces_and_ways(self):
        for machine in QUIET:
            for piece in pieces(machine, 2):
                for text in piece[:3]:
                    self.assertEqual(piece_of(machine, text), piece)
                    for other in all_texts(machine.letters, 2)[:6]:
                        self.assertEqual(fewest(machine, text, other) is None, other not in piece)
                        word = short_word(machine, text, other)
                        if word is not None:
                            self.assertTrue(is_word(machine, word) and is_short_word(machine, text, other, word))
                            self.assertEqual((led(machine, word, text), len(way_of(machine, word, text)) - 1), (other, fewest(machine, text, other)))

    def test_pairs_and_levels(self):
        for machine in (ODD, GRAY, LAMP, counter(3)):
            pair = depth_pair(machine, 2, 1)
            for word in pair:
                self.assertTrue(is_level_turn(machine, 2, level_turn(word_move(machine, word), 2)))
            self.assertIs(is_depth_pair(machine, 2, 1, read_value(write_value(pair))), True)
            told = rotation_sum(machine, "0")
            self.assertEqual(read_value(write_value(told)), told)

    def test_near_ones_go_on(self):
        one = Endless(2, "1", tail="01")
        for near in near_ones(ODD, one):
            self.assertEqual(near_ones(ODD, near), near_ones(ODD, one))
            for move in end_moves(ODD, one, near):
                self.assertEqual(move(one.end(100)[-1:])[-1:] in ("0", "1"), True)
                self.assertTrue(is_core_move(ODD, move))

    def test_rings_and_joined_moves(self):
        for state in GRAY:
            move = move_of(GRAY, state)
            self.assertEqual(joined_move(move.first_turn, move.rest("0"), move.rest("1")), move)
            for rest in ring_rests(move):
                self.assertEqual(ring_texts(rest, "01")[0], "01")

    def test_a_shop_of_a_machine_that_was_read(self):
        for machine in QUIET:
            shop = Shop(read_machine(write_machine(machine)))
            shop.keep("x", ((machine.states[0], 2),))
            shell = Shell(machine)
            shell(f"keep x {machine.states[0]} 2")
            self.assertEqual(read_shop(shell("show")), shop)
            self.assertEqual(shell.shop(), shop)
        for value in VALUES:
            if not isinstance(value, Machine):
                self.refused(InvalidMachine, Shop, value)


if __name__ == "__main__":
    unittest.main()
