"""The shell: commands, answers, and what is none."""

import itertools
import random

from support import BIG, FLIP, FOLDED, GRAY, HANOI, LAMP, LONG, MORE, ODD, VALUES, WIDE, Case, all_texts, wide_word
from test_levels import OVER
from test_shop import outcome, state
from textmovers.core.cores import core, core_depth, is_core_paper, settled
from textmovers.endless.near import are_near, far_length, is_near_paper, near_ones
from textmovers.endless.texts import Endless
from textmovers.errors import InvalidMachine, NothingToUndo
from textmovers.grow.busy import busy, is_kind_paper, is_quiet, kind
from textmovers.level.levels import level_size, parting_length, piece_number
from textmovers.machine.machines import Machine
from textmovers.move.alike import apart_text
from textmovers.move.words import led
from textmovers.ring.orders import is_order_paper, order
from textmovers.ring.rings import led_often, ring_length, times
from textmovers.ring.rounds import first_stop, goes_round, is_round_paper
from textmovers.shop.shop import Shop
from textmovers.text.formats import read_value, write_move
from textmovers.text.shell import Shell
from textmovers.text.shops import write_shop
from textmovers.way.ways import fewest, is_short_word


def filled(machine, *lines):
    """A shell that has done these lines."""
    shell = Shell(machine)
    for line in lines:
        if shell(line) != "done":
            raise AssertionError(f"{line}: {shell(line)}")
    return shell


def hanoi():
    return filled(HANOI, "keep one a 1 b 1", "keep two c 2", "keep none", "promise still idle two", "keep back a -1 b -2")


def shown(value):
    """An answer of one part, as the document tells it."""
    if value is None:
        return "none"
    if isinstance(value, bool):
        return "yes" if value else "no"
    return str(value)


def word_of(answer):
    """The word that a WORD tells."""
    parts = [] if answer == "none" else answer.split(" ")
    return tuple((name, int(number)) for name, number in zip(parts[::2], parts[1::2]))


class Commands(Case):

    def test_keep_link_turn_drop(self):
        shell = Shell(HANOI)
        plain = Shop(HANOI)
        for line, call in (
            ("keep one a 1 b -2", lambda: plain.keep("one", (("a", 1), ("b", -2)))), ("keep two", lambda: plain.keep("two", ())),
            ("keep three a 1 a 1 e -7", lambda: plain.keep("three", (("a", 1), ("a", 1), ("e", -7)))), ("link both one three", lambda: plain.link("both", "one", "three")),
            ("turn both", lambda: plain.turn_back("both")), ("drop two", lambda: plain.drop("two")), ("link one one one", lambda: plain.link("one", "one", "one")),
            ("undo", plain.undo), ("undo 2", lambda: plain.undo(many=2)), ("redo", plain.redo), ("undo 0", lambda: plain.undo(many=0)),
            ("redo 1", lambda: plain.redo(many=1)), ("redo 1", lambda: plain.redo(many=1)), ("redo 0", lambda: plain.redo(many=0)),
        ):
            self.assertEqual(shell(line), "done", line)
            call()
            self.assertEqual(state(shell.shop()), state(plain))

    def test_promises_of_all_sorts(self):
        shell = filled(HANOI, "keep a a 1", "keep b b 1", "keep ab a 1 b 1", "keep none", "keep aa a 2")
        told = {"p": ("alike", "aa", "none"), "q": ("calm", "a"), "r": ("idle", "aa"), "s": ("leads", "a", "01", "11"), "t": ("round", "ab"),
                "u": ("swap", "a", "aa"), "v": ("times", "a", 10 ** 30), "w": ("leads", "b", "", "")}
        lines = ["promise p alike aa none", "promise q calm a", "promise r idle aa", "promise s leads a =01 =11", "promise t round ab", "promise u swap a aa",
                 "promise v times a 1" + "0" * 30, "promise w leads b = ="]
        for line in lines:
            self.assertEqual(shell(line), "done")
        self.assertEqual(shell.shop().promises, told)
        self.assertEqual(shell("labels"), "p q r s t u v w")
        self.assertEqual(shell("release q"), "done")
        self.assertEqual(shell("labels"), "p r s t u v w")
        for line, answer in (("promise x idle a", "broken x"), ("promise x alike a b", "broken x"), ("promise x swap a b", "broken x"), ("promise x round a", "broken x"),
                             ("promise x times a 3", "broken x"), ("promise x leads a =0 =0", "broken x"), ("promise p idle none", "operation"), ("promise x idle y", "operation"),
                             ("promise X idle none", "name"), ("promise x leads a =0 =00", "operation"), ("promise x leads a =3 =3", "operation"), ("promise x times a 0", "operation"),
                             ("promise x times a -1", "operation"), ("promise x times a 1" + "0" * 31, "operation"), ("promise x times a " + "9" * 1000, "operation"),
                             ("promise x times a " + "9" * 1001, "what"), ("promise x times a 01", "what"), ("promise x idle a b", "what"), ("promise x idle", "what"),
                             ("promise x sings a", "what"), ("promise x", "what"), ("promise x leads a 0 0", "what"), ("promise x leads a =0", "what"), ("promise x alike a", "what"),
                             ("promise x calm", "what"), ("promise x round a a", "what"), ("promise x swap a b a", "what"), ("promise x times a", "what"), ("promise x times a =2", "what"),
                             ("release x", "unknown x"), ("release", "what"), ("keep a b 1", "broken s")):
            self.assertEqual(shell(line), answer, line)

    def test_what_the_shop_has(self):
        shell = hanoi()
        self.assertEqual((shell("names"), shell("labels")), ("back none one two", "still"))
        self.assertEqual((Shell(ODD)("names"), Shell(ODD)("labels")), ("none", "none"))
        self.assertEqual([shell(f"word {name}") for name in ("one", "two", "none", "back")], ["a 1 b 1", "c 2", "none", "a -1 b -2"])
        self.assertEqual(shell("show"), write_shop(shell.shop()))
        for name in ("one", "none"):
            self.assertEqual(shell(f"move {name}"), write_move(shell.shop().move(name)))

    def test_a_twin(self):
        shell = hanoi()
        twin = shell.shop()
        self.assertIsInstance(twin, Shop)
        self.assertEqual(twin.undo(many=5), 0)
        twin.keep("x", ())
        self.assertEqual(shell("names"), "back none one two")
        self.assertEqual((shell("undo 5"), shell("redo 5"), shell.shop().undo(many=0)), ("done", "done", 5))

    def test_answer_is_the_same(self):
        one, other = Shell(GRAY), Shell(GRAY)
        for line in ("keep one a 1", "names", "kind one", "x", "undo 3", "led one =01", None):
            self.assertEqual(one(line), other.answer(line))


class Moves(Case):

    def test_questions_about_moves(self):
        chance = random.Random(1)
        for machine in (HANOI, GRAY, ODD, FOLDED, LAMP, LONG, FLIP):
            shell = Shell(machine)
            for at in range(6):
                word = tuple((chance.choice(machine.states), chance.choice((1, -1, 2))) for _ in range(chance.randint(0, 3)))
                self.assertEqual(shell("keep " + " ".join([f"w{'abcdef'[at]}", *[f"{name} {number}" for name, number in word]])), "done")
            shop = shell.shop()
            texts = all_texts(machine.letters, 3)
            for name in shop:
                move = shop.move(name)
                for text in chance.sample(texts, 4):
                    other = chance.choice(texts)
                    self.assertEqual(shell(f"led {name} ={text}"), "=" + led(machine, shop[name], text))
                    for number in (0, 5, -3, 10 ** 40):
                        self.assert_answer(shell(f"often {name} {number} ={text}"), led_often, move, text, number, sign="=")
                    self.assert_answer(shell(f"ring {name} ={text}"), ring_length, move, text)
                    self.assert_answer(shell(f"times {name} ={text} ={other}"), times, move, text, other)
                self.assertEqual(shell(f"kind {name}"), " ".join(str(part) for part in kind(move)))
                for length in (0, 5, 200):
                    self.assertEqual(shell(f"busy {name} {length}"), str(busy(move, length)))
                self.assert_answer(shell(f"order {name}"), order, move)
                self.assert_answer(shell(f"round {name}"), goes_round, move)
                self.assert_answer(shell(f"stop {name}"), first_stop, move)
                for other in shop:
                    self.assertEqual(shell(f"alike {name} {other}"), shown(move == shop.move(other)))
                    told = apart_text(move, shop.move(other))
                    self.assertEqual(shell(f"apart {name} {other}"), "none" if told is None else "=" + told)

    def assert_answer(self, answer, call, *args, sign=""):
        """The answer tells what the call returns, or its error."""
        told = outcome(call, *args)
        words = {"TooMany": "many", "Loud": "loud", "InvalidNumber": "number"}
        if isinstance(told, tuple) and told[0] in words:
            self.assertEqual(answer, f"{words[told[0]]} {told[1][0]}")
        elif told is not None and sign:
            self.assertEqual(answer, sign + told)
        else:
            self.assertEqual(answer, shown(told))

    def test_questions_about_the_machine(self):
        for machine in (HANOI, GRAY, ODD, FOLDED, LAMP, LONG, FLIP, MORE, OVER):
            shell = Shell(machine)
            shell("keep one " + " ".join(f"{name} 1" for name in machine.states[:2]))
            self.assertEqual(shell("quiet"), shown(is_quiet(machine)))
            self.assert_answer(shell("core"), lambda: len(core(machine)))
            self.assert_answer(shell("depth"), core_depth, machine)
            self.assert_answer(shell("settled one"), settled, machine, shell.shop()["one"])
            for length in (0, 2, 5, 60, 200, 201, -1):
                self.assert_answer(shell(f"size {length}"), level_size, machine, length)
                self.assert_answer(shell(f"pieces {length}"), piece_number, machine, length)
            self.assert_answer(shell("parting"), parting_length, machine)
            for text, other in (("00", "10"), ("01", "10"), ("", ""), ("000", "111"), ("00", "01")):
                self.assert_answer(shell(f"fewest ={text} ={other}"), fewest, machine, text, other)
        self.assertEqual(Shell(LAMP)("fewest =0 =1"), "loud a")

    def test_endless_texts(self):
        parts = [("2", "01"), ("0", ""), ("12", "0"), ("22", "11"), ("012", "1" * 40)]
        for machine in (HANOI, counter_of_three()):
            shell = Shell(machine)
            for (ring, tail), (other, end) in itertools.product(parts, repeat=2):
                one, two = Endless(3, ring, tail=tail), Endless(3, other, tail=end)
                both = f"({ring}){tail} ({other}){end}"
                self.assertEqual(shell(f"near {both}"), shown(are_near(machine, one, two)))
                self.assertEqual(shell(f"far {both}"), shown(far_length(machine, one, two)))
                self.assertEqual(shell(f"nears ({ring}){tail}"), " ".join(str(near) for near in near_ones(machine, one)))
                self.assertIs(is_near_paper(machine, one, two, read_value(shell(f"paper near {both}"))), True)

    def test_ways(self):
        shell = Shell(HANOI)
        for text, other in itertools.product(all_texts(3, 3)[::4], repeat=2):
            word = word_of(shell(f"way ={text} ={other}"))
            self.assertIs(is_short_word(HANOI, text, other, word), True)
        self.assertEqual(shell("way =00 =00"), "none")
        self.assertEqual(Shell(FLIP)("way =00 =01"), "none")
        self.assertEqual(Shell(FLIP)("fewest =00 =01"), "none")
        self.assertEqual(shell("way =000000 =222222"), "many 40")
        self.assertEqual(shell("fewest =000000 =222222"), "63")

    def test_papers(self):
        for machine in (HANOI, GRAY, ODD, FOLDED, LAMP, LONG):
            shell = Shell(machine)
            for at, name in enumerate(machine.states):
                shell(f"keep {name} {name} 1")
                move = shell.shop().move(name)
                self.assertIs(is_kind_paper(move, read_value(shell(f"paper kind {name}"))), True)
                for kind_of, judge in (("order", is_order_paper), ("round", is_round_paper)):
                    answer = shell(f"paper {kind_of} {name}")
                    if not answer.startswith("many"):
                        self.assertIs(judge(move, read_value(answer)), True)
            answer = shell("paper core")
            if is_quiet(machine):
                self.assertIs(is_core_paper(machine, read_value(answer)), True)
            else:
                self.assertTrue(answer.startswith("loud "))


def counter_of_three():
    return Machine(3, {"a": ((1, 2, 0), ("e", "e", "a")), "e": ((0, 1, 2), ("e", "e", "e"))})


class Errors(Case):

    def test_words_for_errors(self):
        shell = hanoi()
        for line, answer in (
            ("keep One a 1", "name"), ("keep one q 1", "word"), ("keep one a 0", "word"), ("keep one a 201", "word"), ("keep one a " + "9" * 1000, "word"), ("keep one1 a 1", "name"),
            ("keep toolongname", "name"), ("keep two a 1", "broken still"), ("link x one y", "unknown y"), ("link x y one", "unknown y"), ("link X y one", "name"), ("turn x", "unknown x"),
            ("drop two", "operation"), ("drop x", "unknown x"), ("release x", "unknown x"), ("undo 6", "undo 6"), ("redo 1", "undo 1"), ("redo", "undo 1"), ("undo " + "9" * 60, "undo " + "9" * 60),
            ("undo 1" + "0" * 60, "number 1" + "0" * 60), ("word x", "unknown x"), ("move x", "unknown x"), ("led x =3", "unknown x"), ("led one =3", "text"), ("led one =" + "0" * 201, "text"),
            ("often one 1" + "0" * 60 + " =0", "number 1" + "0" * 60), ("often one 1" + "0" * 60 + " =3", "text"), ("often x 1 =3", "unknown x"), ("ring one =a", "text"), ("ring one ==", "text"),
            ("times one =0 =00", "text"), ("times one =0 =3", "text"), ("times x =3 =0", "unknown x"), ("busy one 201", "number 201"), ("busy one -1", "number -1"), ("busy x 201", "unknown x"),
            ("busy one " + "9" * 1000, "number " + "9" * 1000), ("busy one -" + "9" * 1000, "number -" + "9" * 1000), ("alike one x", "unknown x"), ("alike x y", "unknown x"), ("apart x one", "unknown x"),
            ("order x", "unknown x"), ("round x", "unknown x"), ("stop x", "unknown x"), ("settled x", "unknown x"), ("kind x", "unknown x"), ("kind X!", "unknown X!"), ("size 4", "many 32"),
            ("size -1", "number -1"), ("pieces 201", "number 201"), ("near (3) (0)", "text"), ("near (0) (3)", "text"), ("near () (0)", "text"), ("near (0)x (0)", "text"), ("nears (0)" + "1" * 41, "text"),
            ("nears (" + "0" * 13 + ")", "text"), ("nears ()", "text"), ("far (0) (1)a", "text"), ("fewest =0 =00", "text"), ("fewest =x =0", "text"), ("way =0 =3", "text"), ("paper kind x", "unknown x"),
            ("paper near (0) (x)", "text"), ("paper order x", "unknown x"), ("paper round x", "unknown x"), ("led \u00e9 =0", "unknown \u00e9"), ("led one =\u00e9", "text"),
        ):
            before = state(shell.shop())
            self.assertEqual(shell(line), answer, line)
            self.assertEqual(state(shell.shop()), before)

    def test_too_many_and_loud(self):
        shell = filled(LAMP, "keep one a 1")
        for line in ("core", "depth", "settled one", "pieces 2", "parting", "near (0) (1)", "nears (0)", "far (0) (1)", "fewest =0 =1", "way =0 =1", "paper core", "paper near (0) (1)",
                     "promise p round one", "promise p times one 2"):
            self.assertEqual(shell(line), "loud a", line)
        self.assertEqual(shell("pieces 201"), "number 201")
        self.assertEqual(shell("near (2) (1)"), "text")
        self.assertEqual(shell("settled x"), "unknown x")
        self.assertEqual((shell("order one"), shell("paper order one")), ("many 60", "many 60"))
        self.assertEqual([Shell(MORE)(line) for line in ("core", "depth", "nears (0)", "paper core")], ["many 60"] * 4)
        wide = Shell(WIDE)
        line = " ".join(f"{name} {number}" for name, number in wide_word(3, 12))
        self.assertEqual(wide(f"keep one {line}"), "many 60")
        for name in "abcdefgh":
            self.assertEqual(wide(f"keep {name}"), "done")
        self.assertEqual(wide("keep i"), "many 8")
        self.assertEqual(Shell(OVER)("pieces 200"), "many 24")

    def test_lines_that_are_none(self):
        shell = hanoi()
        forms = {
            "keep": "one a 1", "link": "both one two", "turn": "one", "drop": "one", "promise": "p idle two", "release": "still", "names": "", "labels": "", "show": "", "word": "one",
            "move": "one", "led": "one =0", "often": "one 5 =0", "ring": "one =0", "times": "one =0 =1", "kind": "one", "busy": "one 5", "alike": "one two", "apart": "one two", "order": "one",
            "round": "one", "stop": "one", "quiet": "", "core": "", "depth": "", "settled": "one", "size": "2", "pieces": "5", "parting": "", "near": "(0) (1)", "nears": "(0)", "far": "(0) (1)",
            "fewest": "=0 =1", "way": "=0 =1", "paper": "core",
        }
        for word, parts in forms.items():
            line = f"{word} {parts}".strip()
            self.assertNotEqual(Shell(HANOI)(line), "what", line)
            self.assertNotEqual(hanoi()(line), "what", line)
            before = state(shell.shop())
            words = line.split(" ")
            near = [f"{line} x", f"{line} ", f" {line}", f"{line}\n", f"\n{line}", line.upper(), line.replace(" ", "\t") + "\t", f"{line} =0 =0", f"{line} (0)", line + "x" if len(words) == 1 else f"{word}x {parts}"]
            if parts:
                near += [word, line.replace(" ", "  ", 1), " ".join(words[:-1])]
            for one in near:
                if one == "keep one":
                    continue
                self.assertEqual(shell(one), "what", repr(one))
            self.assertEqual(state(shell.shop()), before)
        self.assertEqual(shell("keep one"), "done")

    def test_parts_that_are_wrong(self):
        shell = hanoi()
        before = state(shell.shop())
        for line in ("", " ", "\n", "x", "keep", "keep one a", "keep one a x", "keep one a 1 b", "keep one 1 a", "keep one a 01", "keep one a +1", "keep one a -0", "keep one a 1.0", "keep one a " + "9" * 1001,
                     "keep one a \u0661", "undo x", "undo -1", "undo 01", "undo 1 1", "undo =1", "redo -1", "redo -0", "redo " + "1" * 1001, "undo -" + "9" * 70, "led one 0", "led one", "led =0 one", "led one (0)",
                     "often one =0 5", "often one x =0", "often one 5 0", "often one 05 =0", "often one " + "1" * 1001 + " =0", "busy one =5", "busy one five", "size x", "size", "size 2 2", "pieces =2", "near (0 (1)",
                     "near 0 1", "near (0)", "near (0) 1", "near ((0) (1)", "near (0)) (1)", "near (0)(1) (1)", "near 0) (1)", "near (0) (1) (2)", "nears 0", "nears )0(", "nears (0)1)", "nears (0)(1", "far (0) =1",
                     "fewest 0 1", "fewest =0", "way (0) (1)", "paper", "paper kind", "paper x one", "paper core one", "paper near (0)", "paper near =0 =1", "paper order", "paper round one two", "papers core",
                     "names names", "show all", "Names", "quiet ", "help", "turn", "turn one two", "drop", "release still still", "alike one", "apart one two two", "stop", "settled", "depth 1", "core 4", "parting 2"):
            self.assertEqual(shell(line), "what", line)
        self.assertEqual(state(shell.shop()), before)

    def test_other_values(self):
        shell = hanoi()
        before = state(shell.shop())
        for value in [*VALUES, b"names", ["names"], ("names",), 1.5, shell, shell.shop()]:
            self.assertEqual(shell(value), "what")
            self.assertEqual(shell.answer(value), "what")
        self.assertEqual(state(shell.shop()), before)

    def test_machines(self):
        for value in VALUES:
            if isinstance(value, Machine):
                self.assertEqual(Shell(value).shop(), Shop(value))
            else:
                self.refused(InvalidMachine, Shell, value)

    def test_no_question_changes_the_shop(self):
        shell = hanoi()
        shell("undo")
        before = state(shell.shop())
        for line in ("names", "labels", "show", "word one", "move one", "led one =01", "often one 7 =01", "ring one =01", "times one =0 =1", "kind one", "busy one 3", "alike one two", "apart one two",
                     "order one", "round one", "stop one", "quiet", "core", "depth", "settled one", "size 2", "pieces 5", "parting", "near (0) (1)", "nears (0)", "far (0) (1)", "fewest =0 =1", "way =0 =1",
                     "paper kind one", "paper order one", "paper round one", "paper core", "paper near (0) (1)"):
            first = shell(line)
            self.assertNotEqual(first, "what", line)
            self.assertEqual(shell(line), first)
            self.assertEqual(state(shell.shop()), before)
        self.assertEqual(shell("redo"), "done")

    def test_numbers_of_a_thousand_digits(self):
        shell = filled(ODD, "keep one a 1")
        self.assertEqual(shell("undo " + "9" * 1000), "number " + "9" * 1000)
        self.assertEqual(shell(f"often one {BIG} =0"), f"number {BIG}")
        self.assertEqual(shell(f"often one {10 ** 60 - 1} =000"), "=111")
        with self.assertRaises(NothingToUndo):
            shell.shop().undo(many=2)
