"""The examples of the document, word for word."""

import unittest

from run_examples import run_examples
from textmovers.base.letters import index_of, is_text, is_turn, text_at, texts
from textmovers.core.cores import (
    core, core_depth, core_rows, is_core_move, is_core_paper, meet_depth, rest_place, settled,
)
from textmovers.core.outlines import (
    is_outline, joined_outline, outline, outline_depth, outline_led, outline_of, outline_power, outline_product,
    outline_rest, outline_undone,
)
from textmovers.endless.near import (
    are_near, end_moves, far_length, is_near_paper, leaders, near_groups, near_ones, near_paper,
)
from textmovers.endless.texts import Endless
from textmovers.grow.busy import (
    busy, busy_row, busy_sum, is_kind_paper, is_quiet, kind, kind_paper, loud_state,
)
from textmovers.level.depths import (
    are_same, count, depth, depth_pair, is_depth_pair, is_rotating_machine, rotation, rotation_sum, zero_sizes,
)
from textmovers.level.levels import (
    is_level_turn, level_size, level_turn, parting_length, piece_number, piece_of, pieces,
)
from textmovers.machine.known import counter, folded, gray, towers
from textmovers.machine.machines import Machine
from textmovers.move.alike import alike_paper, alike_states, apart_text, are_alike, is_alike_paper, machine_of, merged
from textmovers.move.moves import Move, first_turned, idle, joined_move, move_of
from textmovers.move.words import first_words, is_word, joined_word, led, passed, undone_word, way_of, word_move
from textmovers.ring.orders import is_idle_after, is_order_paper, measures, order
from textmovers.ring.rings import (
    led_often, ring_counts, ring_length, ring_rest, ring_rests, ring_table, ring_texts, times,
)
from textmovers.ring.rounds import (
    first_stop, goes_round, has_rotations, is_round_paper, level_sum, place_in_round, round_paper, round_rests,
    stop_by_sums, text_in_round,
)
from textmovers.shop.shop import Shop
from textmovers.text.formats import read_machine, read_move, read_value, write_machine, write_move, write_value
from textmovers.text.shell import Shell
from textmovers.text.shops import read_shop, write_shop
from textmovers.way.ways import end_ways, ends, fewest, is_short_word, short_word

VALUES = """
>>> ODD = counter(2)
>>> GRAY = gray()
>>> HANOI = towers()
>>> LAMP = Machine(2, {"a": ((1, 0), ("a", "b")), "b": ((0, 1), ("a", "b"))})
"""

LETTERS = """
>>> [is_text(2, "0110"), is_text(2, "012"), is_turn(3, (1, 2, 0)), is_turn(3, (1, 1, 0)), text_at(3, 2, 5), index_of(2, "0110"), list(texts(2, 2)), list(texts(4, 0))]
[True, False, True, False, '12', 6, ['00', '01', '10', '11'], ['']]
"""

MACHINES = """
>>> [str(ODD), ODD.step("a", "110"), ODD.step("e", "01"), GRAY.step("b", "0010"), HANOI.step("c", "0012"), (~ODD).step("a", "001"), ODD == Machine(2, {"e": ((0, 1), ("e", "e")), "a": ((1, 0), ("e", "a"))})]
['machine of 2 letters: a 10 e a, e 01 e e', ('001', 'e'), ('01', 'e'), ('0011', 'e'), ('0022', 'e'), ('110', 'e'), True]
>>> [(~LAMP).nexts("a"), str(folded()), HANOI.part("a").states, len(GRAY.with_state("x", (1, 0), ("x", "b"))), "e" in LAMP, ODD.renamed({"a": "e", "e": "a"}) == ODD]
[('b', 'a'), 'machine of 2 letters: a 10 e b, b 01 e a, e 01 e e', ('a', 'e'), 4, False, False]
>>> counter(5)
raises InvalidNumber(5)
"""

MOVES = """
>>> add = move_of(ODD, "a")
>>> [str(add), add("1101"), str(add.rest("0")), add.rest("11") == add, len(add * add), (add * add)("0110"), (~add)("000"), add.power(-3)("110")]
['move of 2 letters: 10 1 0 | 01 1 1', '0011', 'move of 2 letters: 01 0 0', True, 3, '0001', '111', '000']
>>> swap = first_turned(2, (1, 0))
>>> [joined_move((1, 0), idle(2), add) == add, (add * ~add).is_idle, swap.moved_by(add)("00"), str(swap.moved_by(add)), Move(2, ((0, 1), (1, 2)), ((0, 1), (0, 2)), ((0, 1), (2, 1))) == idle(2), add < swap, [one.is_idle for one in add.rests()]]
[True, True, '11', 'move of 2 letters: 10 1 2 | 10 1 3 | 10 3 2 | 01 3 3', True, True, [False, True]]
"""

WORDS = """
>>> word = (("a", 1), ("c", -1), ("b", 2))
>>> [is_word(HANOI, word), is_word(HANOI, (("a", 0),)), led(HANOI, word, "2201"), way_of(HANOI, word, "0120"), passed(HANOI, word, "2"), passed(ODD, (("a", 2),), "1"), undone_word(HANOI, word)]
[True, False, '1211', ('0120', '1120', '2120', '0120', '2120'), ((('a', 1), ('e', -1), ('b', 2)), '1'), ((('a', 1), ('e', 1)), '1'), (('b', -2), ('c', 1), ('a', -1))]
>>> [word_move(ODD, (("a", 2),)) == add * add, word_move(ODD, ()).is_idle, joined_word(HANOI, word, (("b", -2), ("c", 3))), [one for one, two in first_words(ODD, 2)], len(first_words(GRAY, 3))]
[True, True, (('a', 1), ('c', 2)), [(), (('a', 1),), (('a', -1),), (('a', 2),), (('a', -2),)], 7]
"""

ALIKE = """
>>> [apart_text(move_of(GRAY, "a"), move_of(GRAY, "b")), apart_text(add, move_of(folded(), "a")), apart_text(add, add * idle(2)), are_alike(ODD, "e", GRAY, "e"), alike_paper(ODD, "e", GRAY, "e"), is_alike_paper(ODD, "a", GRAY, "a", ("apart", "11"))]
['0', '10', None, True, ('alike', (('e', 'e'),)), True]
>>> twice = ODD.beside(ODD.renamed({"a": "x", "e": "y"}))
>>> [alike_states(twice), merged(twice) == ODD, is_alike_paper(twice, "a", ODD, "a", ("alike", (("a", "a"), ("e", "e")))), machine_of(add * add, ("q", "a", "e")) == ODD.with_state("q", (0, 1), ("a", "a"))]
[(('a', 'x'), ('e', 'y')), True, True, True]
"""

BUSY = """
>>> LONG = ODD.with_state("c", (0, 1), ("c", "a"))
>>> late, b = move_of(LONG, "c"), move_of(GRAY, "b")
>>> [kind(add), kind(move_of(GRAY, "a")), kind(b), kind(late), kind(move_of(LAMP, "a")), [busy(late, length) for length in range(5)], busy_sum(late, 100), busy(move_of(LAMP, "b"), 200) == 2 ** 200]
[('quiet', 1), ('shallow', 1), ('quiet', 2), ('degree', 1), ('loud',), [1, 2, 3, 4, 5], 5151, True]
>>> [busy_row(b), busy_row(add), busy_row(idle(2)), is_quiet(HANOI), loud_state(LONG), is_kind_paper(b, ("degree", (("", "0"),), {0: (1, 0), 1: (0, 0)}))]
[((1,), (2,)), ((), (1,)), ((), (0,)), True, 'c', True]
>>> [is_kind_paper(late, ("degree", (("", "0"), ("1", "1")), {0: (2, 0), 1: (1, 0)})), is_kind_paper(move_of(LAMP, "a"), ("loud", "1", "1", "01")), is_kind_paper(add, ("shallow", {0: (0, 0)})), kind_paper(idle(2))]
[True, True, False, ('shallow', {})]
"""

CORES = """
>>> [core(ODD) == (idle(2), ~add, add), [len(core(machine)) for machine in (GRAY, HANOI, folded(), counter(4))], core_rows(GRAY), core_rows(HANOI)[1], [core_depth(machine) for machine in (ODD, HANOI, folded())], meet_depth(folded())]
[True, [3, 4, 7, 3], (((0, 1), (0, 0)), ((1, 0), (0, 0)), ((0, 1), (2, 1))), ((0, 2, 1), (1, 0, 0)), [1, 1, 2], 2]
>>> [settled(ODD, (("a", 4),)), settled(ODD, (("a", 5),)), settled(HANOI, (("a", 1), ("b", 1), ("c", 1), ("b", 1))), settled(HANOI, (("c", 1),)), rest_place(ODD, (("a", 5),), "110"), rest_place(ODD, (("a", 5),), "1"), is_core_move(GRAY, move_of(GRAY, "a") * move_of(GRAY, "b"))]
[2, 3, 2, 0, 2, None, False]
>>> [is_core_paper(ODD, ("core", ((("a", -1),), (), (("a", 1),)), 5)), is_core_paper(ODD, ("core", ((), (("a", 1),), (("a", -1),)), 0)), is_core_paper(GRAY, ("core", ((("b", 2),), (("b", 1),), (("a", 1),)), 1)), is_core_paper(GRAY, ("core", ((), (("b", 1),)), 1))]
[True, False, True, False]
>>> core(LAMP)
raises Loud('a')
"""

OUTLINES = """
>>> [outline(ODD, (("a", 2),)), outline(ODD, (("a", 4),)), outline(ODD, (("a", -1),)), outline(GRAY, (("a", 1), ("b", 1))), outline(HANOI, (("a", 1), ("b", 1)))]
[(0, (((0, 1), (-3, -3)),)), (0, (((0, 1), (1, 1)), ((0, 1), (-3, -3)))), (-2, ()), (0, (((1, 0), (-2, -3)),)), (0, (((1, 2, 0), (-4, -1, -3)),))]
>>> one = outline(ODD, (("a", 1),))
>>> far = outline_power(ODD, one, 10 ** 30)
>>> [outline_power(ODD, one, 4) == outline(ODD, (("a", 4),)), index_of(2, outline_led(ODD, far, "0" * 100)[::-1]) == 10 ** 30, outline_product(ODD, far, outline_undone(ODD, far)), outline_depth(ODD, outline(ODD, (("a", 5),))), len(outline_power(ODD, one, 2 ** 100)[1]), outline_power(GRAY, outline(GRAY, (("b", 1),)), 10 ** 50)]
[True, True, (-1, ()), 3, 100, (-1, ())]
>>> [is_outline(ODD, (0, (((1, 0), (-2, -2)),))), is_outline(ODD, (0, (((1, 0), (-1, -3)),))), is_outline(ODD, (0, (((0, 1), (0, -1)),))), outline_of(ODD, first_turned(2, (1, 0))), joined_outline(ODD, (1, 0), (-1, ()), one) == one, outline_rest(HANOI, outline(HANOI, (("a", 1), ("b", 1))), "01"), outline_of(ODD, move_of(LAMP, "a"))]
[True, False, False, (0, (((1, 0), (-1, -1)),)), True, (-4, ()), None]
"""

RINGS = """
>>> turns = word_move(HANOI, (("a", 1), ("b", 1)))
>>> [ring_texts(add, "01"), ring_length(turns, "0" * 40) == 3 ** 40, ring_rest(add, "011") == add, ring_rest(turns, "1") == turns, len(ring_rest(turns, "0")), times(add, "0000", "1011"), times(turns, "000", "222"), times(move_of(HANOI, "a"), "00", "11")]
[('01', '11', '00', '10'), True, True, True, 4, 13, 20, None]
>>> [led_often(add, "00000", 10 ** 30 + 5), led_often(turns, "0000", 10 ** 40), led_often(add, "000", -1), ring_table(turns), ring_counts(turns, 3), ring_counts(move_of(HANOI, "a"), 3), ring_counts(move_of(folded(), "a"), 4)]
['10100', '1210', '111', (((3, 1), (3, 0), (3, 0)), ((3, 0), (3, 1), (3, 1))), {27: 1}, {1: 1, 2: 13}, {2: 4, 4: 2}]
>>> ring_rests(move_of(LAMP, "a"))
raises TooMany
"""

ORDERS = """
>>> six = joined_move((1, 0, 2), first_turned(3, (1, 2, 0)), idle(3), first_turned(3, (1, 0, 2)))
>>> [order(add), order(turns), order(six), measures(six), order(idle(2)), order(word_move(GRAY, (("a", 1), ("b", 1), ("a", 1)))), [order(move_of(HANOI, state)) for state in HANOI], is_idle_after(six, -12), is_idle_after(add, 2 ** 99)]
[None, None, 6, (6, 3, 2, 1), 1, 2, [2, 2, 2, 1], True, False]
>>> [is_order_paper(add, ("spine", "", "0")), is_order_paper(add, ("spine", "01", "11")), is_order_paper(turns, ("spine", "0", "0")), is_order_paper(move_of(folded(), "a"), ("spine", "", "01")), is_order_paper(six, ("order", 6, (6, 3, 2, 1), ("00",))), is_order_paper(six, ("order", 6, (6, 3, 2, 1), ("2", "20"))), is_order_paper(six, ("order", 12, (12, 6, 2, 1), ("00",)))]
[True, True, False, True, True, False, False]
"""

ROUNDS = """
>>> both = word_move(HANOI, (("a", 1), ("b", 1)))
>>> [goes_round(add), goes_round(add * add), goes_round(move_of(folded(), "a")), first_stop(move_of(folded(), "a")), goes_round(both), goes_round(both, 200), round_rests(both) == (both, word_move(HANOI, (("b", 1), ("a", 1))))]
[True, False, False, 2, True, True, True]
>>> [place_in_round(add, "0101"), text_in_round(add, 200, 2 ** 150) == "0" * 150 + "1" + "0" * 49, text_in_round(both, 2, 5), place_in_round(both, "20"), is_round_paper(add, ("round", (add,))), is_round_paper(move_of(folded(), "a"), ("apart", "00", "01")), round_paper(add * add)[0]]
[10, True, '20', 5, True, True, 'apart']
>>> lamp = move_of(LAMP, "a")
>>> [[level_sum(lamp, length) for length in range(4)], stop_by_sums(lamp), goes_round(lamp, 2), stop_by_sums(add), has_rotations(both), level_sum(add.power(3), 10 ** 20), level_sum(move_of(counter(4), "a") * move_of(counter(4), "a"), 7)]
[[1, 1, 0, 0], 3, True, None, False, 1, 2]
"""

LEVELS = """
>>> FLIP = Machine(2, {"a": ((1, 0), ("e", "e")), "e": ((0, 1), ("e", "e"))})
>>> [level_turn(add, 2), pieces(FLIP, 2), piece_of(FLIP, "0111"), piece_number(FLIP, 100) == 2 ** 99, parting_length(FLIP), [parting_length(machine) for machine in (ODD, GRAY, HANOI, folded())]]
[(2, 3, 1, 0), (('00', '10'), ('01', '11')), ('0111', '1111'), True, 2, [None, None, None, None]]
>>> [[level_size(machine, 2) for machine in (ODD, GRAY, LAMP, HANOI, counter(3))], level_size(ODD, 5), is_level_turn(GRAY, 2, (1, 0, 2, 3)), is_level_turn(ODD, 2, (1, 0, 2, 3)), is_level_turn(ODD, 2, (2, 3, 1, 0)), piece_number(HANOI, 200)]
[[4, 8, 8, 648, 9], 32, True, False, True, 1]
>>> piece_number(LAMP, 2)
raises Loud('a')
"""

DEPTHS = """
>>> [[is_rotating_machine(machine) for machine in (ODD, LAMP, HANOI, counter(4))], count(ODD, (("a", 5),), ("a", "a")), count(GRAY, (("a", 1), ("b", -2), ("a", 1)), ("a", "b")), count(GRAY, (("b", -2),), ("b", "b")), [rotation(ODD, (("a", 3),), text) for text in ("", "0", "1")]]
[[True, True, False, False], 10, -2, 3, [1, 1, 0]]
>>> [rotation_sum(ODD, ""), rotation_sum(ODD, "0"), rotation_sum(ODD, "1"), rotation_sum(GRAY, "1"), rotation_sum(GRAY, "0"), are_same(ODD, (("a", 2),), (), 1), are_same(ODD, (("a", 2),), (), 2)]
[{('a',): 1}, {('a', 'a'): 1}, {('a',): 1, ('a', 'a'): 1}, {('a', 'b'): 1, ('b',): 1}, {('a', 'b'): 1}, True, False]
>>> [[depth(machine, 3) for machine in (ODD, GRAY, LAMP, folded())], [depth(counter(3), length) for length in (0, 1, 2)], zero_sizes(ODD, 3), zero_sizes(LAMP, 3), depth_pair(ODD, 2, 2), is_depth_pair(ODD, 2, 1, ((("a", 2),), ())), is_depth_pair(ODD, 2, 1, ((("a", 4),), ()))]
[[4, 4, 3, 4], [0, 1, 3], (8, 4, 2, 2, 1), (32, 8, 2, 1), None, True, False]
"""

NEAR = """
>>> ones, zeros = Endless(2, "11", tail="1"), Endless(2, "0")
>>> [str(ones), str(Endless(2, "10", tail="1011")), Endless(2, "0110", tail="011").ring, ones.put("0") == Endless(2, "1", tail="10"), str(ones.put("01").cut(1)), Endless(3, "12", tail="0").end(6), zeros < ones]
['(1)', '(01)1', '0011', True, '(1)0', '212120', True]
>>> [are_near(ODD, ones, zeros), [str(one) for one in near_ones(ODD, ones.put("0"))], [str(one) for one in near_ones(HANOI, Endless(3, "2", tail="01"))], [str(one) for one in near_ones(folded(), ones)], [str(one) for one in near_ones(GRAY, zeros.put("10"))]]
[True, ['(0)1', '(1)0'], ['(2)01', '(2)11'], ['(1)', '(01)', '(10)'], ['(0)10', '(0)11']]
>>> [end_moves(ODD, ones, zeros) == (add,), len(leaders(ODD, ones, zeros, 1)), far_length(ODD, ones, Endless(2, "10")), near_groups(ODD, ones, zeros.put("1"), zeros, ones.put("0"), Endless(2, "01"))]
[True, 2, 2, ((0, 2), (1, 3), (4,))]
>>> [is_near_paper(ODD, ones, zeros, ("near", add, 3, 2)), is_near_paper(ODD, ones, zeros, ("near", idle(2), 0, 1)), is_near_paper(ODD, ones, Endless(2, "10"), ("far", 2)), is_near_paper(ODD, ones, Endless(2, "10"), ("far", 1)), near_paper(HANOI, Endless(3, "2"), Endless(3, "0"))[0]]
[True, False, True, False, 'far']
>>> are_near(LAMP, ones, zeros)
raises Loud('a')
"""

WAYS = """
>>> [ends(HANOI, 3), ends(folded(), 3), end_ways(HANOI, 2), fewest(HANOI, "0" * 50, "2" * 50) == 2 ** 50 - 1, fewest(GRAY, "0000", "0001"), fewest(ODD, "0000", "0001"), fewest(HANOI, "012", "210")]
[('000', '111', '222'), ('010', '101', '111'), {('00', '11'): 3, ('00', '22'): 3, ('11', '22'): 3}, True, 15, 8, 3]
>>> [is_short_word(HANOI, "00", "22", (("a", 1), ("b", 1), ("c", 1))), fewest(HANOI, "00", "22"), short_word(ODD, "11", "01"), fewest(Machine(2, {"a": ((1, 0), ("e", "e")), "e": ((0, 1), ("e", "e"))}), "00", "01"), led(HANOI, short_word(HANOI, "012", "210"), "012")]
[True, 3, (('a', -1),), None, '210']
"""

SHOPS = """
>>> shop = Shop(HANOI)
>>> [shop.keep("one", (("a", 1), ("b", 1))), shop.keep("two", (("c", 2),)), shop.promise("still", ("idle", "two")), shop.link("both", "one", "two"), shop["both"], shop.promise("same", ("alike", "one", "both")), shop.names, str(shop)]
[None, None, None, None, (('a', 1), ('b', 1), ('c', 2)), None, ('both', 'one', 'two'), 'shop of 3 words, 2 promises']
>>> [shop.would_break("two", (("c", 1),)), shop.led("both", "0021"), shop.undo(many=2), shop.labels, shop.redo(), shop.during(lambda same: [same.turn_back("one"), same["one"]]), shop["one"], "two" in shop]
[('still',), '1221', 3, ('still',), 4, [None, (('b', -1), ('a', -1))], (('a', 1), ('b', 1)), True]
>>> shop.keep("two", (("c", 1),))
raises Broken('still')
"""

STRINGS = r"""
>>> [write_machine(ODD).split("\n"), write_move(add).split("\n"), read_machine(write_machine(HANOI)) == HANOI, read_move(write_move(swap.moved_by(add))) == swap.moved_by(add)]
[['letters 2', 'state a 10 e a', 'state e 01 e e'], ['letters 2', 'row 10 1 0', 'row 01 1 1'], True, True]
>>> [write_value(("near", add, 3, 2)), write_value(("spine", "", "0")), write_value({("a", "b"): -2, ("a",): None, 7: ()}), write_value(Endless(2, "11", tail="0")), read_value("[ 2 01 0 0 ]") == idle(2), read_value("< 3 =12 =0 >") == Endless(3, "12", tail="0")]
['( =near [ 2 10 1 0 01 1 1 ] 3 2 )', '( =spine = =0 )', '{ ( =a ) none ( =a =b ) -2 7 ( ) }', '< 2 =1 =0 >', True, True]
>>> small = Shop(ODD)
>>> [small.keep("one", (("a", 1),)), small.keep("two", ()), small.promise("goes", ("round", "one")), small.promise("far", ("leads", "one", "", "")), write_shop(small).split("\n")[3:], read_shop(write_shop(small)) == small]
[None, None, None, None, ['word one a 1', 'word two', 'promise far leads one = =', 'promise goes round one'], True]
>>> read_move("letters 2\nrow 10 1 0\nrow 01 1 1 0")
raises ParseError(3)
>>> read_machine("letters 2\nstate a 10 e a\nrow 01 1 1")
raises ParseError(2)
"""

SHELLS = r"""
>>> shell = Shell(HANOI)
>>> [shell("keep one a 1 b 1"), shell("keep two c 2"), shell("promise still idle two"), shell("keep two c 1"), shell("link both one two"), shell("word both"), shell("led both =0021"), shell("order one"), shell("ring one =0000"), shell("kind two"), shell("names")]
['done', 'done', 'done', 'broken still', 'done', 'a 1 b 1 c 2', '=1221', 'none', '81', 'shallow 0', 'both one two']
>>> [shell("round one"), shell("alike one both"), shell("apart one two"), shell("core"), shell("depth"), shell("settled both"), shell("fewest =012 =210"), shell("near (2)01 (22)11"), shell("nears (2)01"), shell("pieces 200"), shell("size 2"), shell("parting"), shell("quiet")]
['yes', 'yes', '=0', '4', '1', '1', '3', 'yes', '(2)01 (2)11', '1', '648', 'none', 'yes']
>>> odd = Shell(ODD)
>>> [odd("keep one a 1"), odd("often one 5 =000"), odd("times one =0000 =1011"), odd("stop one"), odd("word x"), odd("keep one q 1"), odd("keep One a 1"), odd("led one =012"), odd("busy one 201"), odd("undo 2"), odd("keep one a"), odd("near (1) (0)"), odd("far (1) (10)"), odd("way =11 =01"), odd("move one").split("\n")]
['done', '=101', '13', 'none', 'unknown x', 'word', 'name', 'text', 'number 201', 'undo 2', 'what', 'yes', '2', 'a -1', ['letters 2', 'row 10 1 0', 'row 01 1 1']]
>>> lamp = Shell(LAMP)
>>> [lamp("keep one a 1"), lamp("kind one"), lamp("core"), lamp("quiet"), lamp("promise goes round one"), lamp("promise soft calm one")]
['done', 'loud', 'loud a', 'no', 'loud a', 'broken soft']
"""


class Examples(unittest.TestCase):

    def test_in_the_order_of_the_document(self):
        names = dict(globals())
        held = [run_examples(text, names) for text in (VALUES, LETTERS, MACHINES, MOVES, WORDS, ALIKE)]
        self.assertEqual(held, [0, 1, 3, 2, 2, 2])
        held = [run_examples(text, names) for text in (BUSY, CORES, OUTLINES, RINGS)]
        self.assertEqual(held, [3, 4, 3, 3])
        held = [run_examples(text, names) for text in (ORDERS, ROUNDS, LEVELS)]
        self.assertEqual(held, [2, 3, 3])
        held = [run_examples(text, names) for text in (DEPTHS, NEAR, WAYS)]
        self.assertEqual(held, [3, 5, 2])
        held = [run_examples(text, names) for text in (SHOPS, STRINGS, SHELLS)]
        self.assertEqual(held, [3, 5, 4])
