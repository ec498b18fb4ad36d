"""Strings of machines, moves, values and shops."""

import random

from support import (
    BIG, FOLDED, GRAY, HANOI, LAMP, LONG, MORE, ODD, SIXTY, VALUES, WIDE, Case, all_texts, nested, random_moves, random_tables,
    wide_word,
)
from test_endless import some_endless
from test_shop import filled
from textmovers.base.letters import is_text
from textmovers.core.cores import core_paper
from textmovers.endless.texts import Endless
from textmovers.errors import InvalidMachine, InvalidMove, InvalidOperation, NothingToUndo, ParseError
from textmovers.grow.busy import kind_paper
from textmovers.machine.known import counter
from textmovers.machine.machines import Machine
from textmovers.move.moves import Move, idle, move_of
from textmovers.ring.orders import order_paper
from textmovers.ring.rounds import round_paper
from textmovers.shop.shop import Shop
from textmovers.text.formats import read_machine, read_move, read_value, write_machine, write_move, write_value
from textmovers.text.shops import read_shop, write_shop

MACHINES = [ODD, GRAY, HANOI, LAMP, FOLDED, LONG, SIXTY, MORE, WIDE, counter(4),
            *[Machine(letters, table) for letters, table in random_tables(41, 1)]]
MOVES = [idle(2), idle(4), *[one for letters in (2, 3, 4) for one in random_moves(letters, letters)],
         Move(2, *[((1, 0) if at == 0 else (0, 1), ((at + 1) % 60,) * 2) for at in range(60)])]


def some_shops():
    """Shops with words and promises of all sorts."""
    full = filled(HANOI, a=(("a", 1),), b=(("b", -1),), ab=(("a", 1), ("b", 1)), none=(), long=(("a", 200),), pairs=(("a", 1), ("a", 1), ("e", -3)))
    for label, promise in (("p", ("alike", "none", "long")), ("q", ("calm", "a")), ("r", ("idle", "pairs")), ("s", ("leads", "a", "01", "11")),
                           ("t", ("round", "ab")), ("u", ("swap", "a", "none")), ("v", ("times", "a", 10 ** 30)), ("w", ("leads", "b", "", ""))):
        full.promise(label, promise)
    loud = filled(LAMP, one=(("a", 2), ("b", -1)))
    loud.promise("one", ("leads", "one", "0" * 200, loud.led("one", "0" * 200)))
    return [full, loud, Shop(ODD), filled(WIDE, x=wide_word(5, 3)), filled(ODD, a=()), *[Shop(machine) for machine in MACHINES[:12]]]


SHOPS = some_shops()

PLAIN = [0, 7, -2, 10, -10, 10 ** 999, 1 - 10 ** 1000, None, "", "0", "idle", "abcxyz0123" * 20, "a" * 200]
BUILT = [
    (), ((),), ((), ()), (1, (2, (3, ())), "x"), {}, {1: 2}, {"a": {}, "": None, 3: (), -3: {}}, {(): (), (1, "b"): {2: {}}, None: 0}, ("near", move_of(ODD, "a"), 3, 2),
    idle(3), {1: move_of(HANOI, "a"), 2: Endless(2, "01", tail="1")}, Endless(4, "0123", tail="3" * 40), (Endless(2, "0" * 11 + "1"),), nested(tuple, 9), nested(dict, 9),
    kind_paper(move_of(GRAY, "b")), kind_paper(move_of(LAMP, "a")), order_paper(move_of(ODD, "a")), round_paper(move_of(FOLDED, "a")), core_paper(HANOI),
    {("a", "b"): 1, ("a",): 2, ("b",): 3, "ab": 4, "a": 5, 1: 6, 10: 7, 9: 8, -1: 9, None: 10},
]
BUILT.append((nested(tuple, 8), nested(tuple, 8), {nested(tuple, 7): 1}))
BUILT.append({nested(tuple, 8): nested(tuple, 8)})


def put_in(string, seed, many=40):
    """Strings near a string: signs changed, words and lines put in, left out and exchanged."""
    chance = random.Random(seed)
    found = []
    for _ in range(many):
        at = chance.randrange(len(string) + 1)
        signs = chance.choice(["", " ", "\n", "0", "1", "00", "-", "-0", "a", "=", "  ", "\t", "(", ")", "none", "%", "\u00e9"])
        found.append(string[:at] + signs + string[at + chance.choice((0, 1)):])
        lines = string.split("\n")
        one, other = chance.randrange(len(lines)), chance.randrange(len(lines))
        lines[one], lines[other] = lines[other], lines[one]
        found.append("\n".join(lines))
        found.append("\n".join(lines[:one] + [lines[other]] + lines[one:]))
        found.append("\n".join(lines[:one] + lines[one + 1:]))
        words = lines[one].split(" ")
        at, to = chance.randrange(len(words)), chance.randrange(len(words))
        words[at], words[to] = words[to], words[at]
        found.append("\n".join(lines[:one] + [" ".join(words)] + lines[one + 1:]))
        found.append("\n".join(lines[:one] + [" ".join(words[:at] + words[at + 1:])] + lines[one + 1:]))
        found.append("\n".join(lines[:one] + [" ".join(words[:at] + [words[to]] + words[at:])] + lines[one + 1:]))
    return [*found, string + "\n", "\n" + string, string + " ", " " + string, string.replace("\n", "\r\n"), string.upper(), "", "\n", " "]


def integer(word, most):
    """Whether the word is an integer of at most so many digits, as the document writes it."""
    digits = word[1:] if word[:1] == "-" else word
    return 1 <= len(digits) <= most and set(digits) <= set("0123456789") and word == str(int(word)) and len(digits) <= most


def model_index(string, is_right):
    """The index of the first line that has not its form, or the number of lines."""
    lines = string.split("\n")
    for index, line in enumerate(lines):
        words = line.split(" ")
        if "" in words:
            return index
        if index == 0 and not (len(words) == 2 and words[0] == "letters" and integer(words[1], 1)):
            return index
        if index > 0 and not is_right(words):
            return index
    return len(lines)


def machine_words(words):
    return words[0] == "state"


def move_words(words):
    return words[0] == "row" and len(words) >= 2 and all(integer(word, 2) for word in words[2:])


def shop_words(words):
    return words[0] in ("state", "word", "promise")


class ThereAndBack(Case):

    def test_machines(self):
        for machine in MACHINES:
            string = write_machine(machine)
            self.assertEqual(read_machine(string), machine)
            self.assertEqual(write_machine(read_machine(string)), string)
            lines = string.split("\n")
            self.assertEqual(lines[0], f"letters {machine.letters}")
            for state, line in zip(machine, lines[1:]):
                turn = "".join(map(str, machine.turn(state)))
                self.assertEqual(line, f"state {state} {turn} {' '.join(machine.nexts(state))}")
            self.assertEqual(len(lines), len(machine) + 1)

    def test_moves(self):
        for move in MOVES:
            string = write_move(move)
            self.assertEqual(read_move(string), move)
            self.assertEqual(write_move(read_move(string)), string)
            lines = [f"letters {move.letters}"]
            for turn, nexts in move.rows:
                lines.append("row " + "".join(map(str, turn)) + "".join(f" {place}" for place in nexts))
            self.assertEqual(string, "\n".join(lines))

    def test_shops(self):
        for shop in SHOPS:
            string = write_shop(shop)
            again = read_shop(string)
            self.assertEqual(again, shop)
            self.assertEqual(write_shop(again), string)
            self.refused_with(NothingToUndo(1), again.undo)
            self.refused_with(NothingToUndo(1), again.redo)
            self.assertEqual(string.split("\n")[:len(shop.machine) + 1], write_machine(shop.machine).split("\n"))
        self.assertEqual(write_shop(SHOPS[0]).split("\n")[5:], [
            "word a a 1", "word ab a 1 b 1", "word b b -1", "word long a 200", "word none", "word pairs a 1 a 1 e -3", "promise p alike none long",
            "promise q calm a", "promise r idle pairs", "promise s leads a =01 =11", "promise t round ab", "promise u swap a none",
            "promise v times a 1" + "0" * 30, "promise w leads b = =",
        ])

    def test_a_shop_that_is_read_goes_on(self):
        again = read_shop(write_shop(SHOPS[0]))
        again.keep("x", (("c", 1),))
        self.assertEqual((again.undo(), again == SHOPS[0]), (0, True))

    def test_values(self):
        for value in [*PLAIN, *BUILT]:
            string = write_value(value)
            self.assertNotIn("\n", string)
            again = read_value(string)
            self.assertEqual(again, value)
            self.assertIs(type(again), type(value))
            self.assertEqual(write_value(again), string)
            if isinstance(value, dict):
                self.assertEqual([write_value(key) for key in again], sorted(write_value(key) for key in value))

    def test_how_values_are_written(self):
        told = {"none": None, "0": 0, "-12": -12, "=": "", "=a0": "a0", "( )": (), "( ( ) none )": ((), None), "{ }": {}, "{ ( ) 1 =a { } }": {"a": {}, (): 1},
                "[ 2 01 0 0 ]": idle(2), "[ 2 10 1 0 01 1 1 ]": move_of(ODD, "a"), "< 3 =12 =0 >": Endless(3, "12", tail="0"), "< 2 =0 = >": Endless(2, "0"),
                "{ -1 1 10 2 9 3 =1 4 none 5 }": {9: 3, 10: 2, -1: 1, "1": 4, None: 5}}
        for string, value in told.items():
            self.assertEqual(write_value(value), string)
            self.assertEqual(read_value(string), value)

    def test_endless_texts(self):
        for letters in (2, 3, 4):
            for _, _, one in some_endless(letters, 40, letters):
                self.assertEqual(write_value(one), f"< {letters} ={one.ring} ={one.tail} >")
                self.assertEqual(read_value(write_value(one)), one)
        long = Endless(2, "0", tail="1" * 40)
        self.assertEqual(read_value(write_value(long)), long)
        for one in (long.put("1"), Endless(2, "0").put("1" * 200)):
            self.refused(InvalidOperation, write_value, one)
            self.refused(InvalidOperation, write_value, (one,))
            self.refused_with(ParseError(0), read_value, f"< 2 =0 ={one.tail} >")
        # Its ring and tail are those of the least form.
        self.assertEqual(write_value(Endless(2, "0", tail="1").put("0" * 200).cut(200)), "< 2 =0 =1 >")

    def test_nothing_is_shared(self):
        value = {"a": {"b": (1,)}}
        string = write_value(value)
        again = read_value(string)
        again["a"]["b"] = 2
        self.assertEqual((value, read_value(string)), ({"a": {"b": (1,)}}, {"a": {"b": (1,)}}))


class NoStrings(Case):

    def test_values_without_a_string(self):
        wrong = [True, False, [], [1], (True,), (1, [2]), {1: []}, {True: 1}, "A", "4", "a b", "_", "a\n", "a" * 201, "=", "-1", 10 ** 1000, -10 ** 1000, (10 ** 1000,),
                 ODD, Shop(ODD), (ODD,), {1: ODD}, nested(tuple, 10), nested(list, 1), nested(dict, 10), (nested(tuple, 9),), {1: nested(tuple, 9)}, {nested(tuple, 9): 1},
                 {"A": 1}, {"a": "A"}, ("\u00e9",), ValueError("x"), int]
        deep = idle(2)
        for _ in range(9):
            deep = (deep,)
        wrong.append(deep)
        deep = Endless(2, "0")
        for _ in range(9):
            deep = {1: deep}
        wrong.append(deep)
        for value in wrong:
            self.refused(InvalidOperation, write_value, value)
        self.assertEqual(read_value(write_value(deep[1])), deep[1])

    def test_every_kind(self):
        for value in VALUES:
            if isinstance(value, Machine):
                self.assertEqual(read_machine(write_machine(value)), value)
            else:
                self.refused(InvalidMachine, write_machine, value)
            if isinstance(value, Move):
                self.assertEqual(read_move(write_move(value)), value)
            else:
                self.refused(InvalidMove, write_move, value)
            self.refused(InvalidOperation, write_shop, value)
            if not isinstance(value, str):
                for call in (read_machine, read_move, read_value, read_shop):
                    self.refused(InvalidOperation, call, value)
            else:
                for call in (read_machine, read_move, read_shop):
                    self.refused(ParseError, call, value)
                if value not in ("0", "1", "3"):
                    self.refused_with(ParseError(0), read_value, value)


class Refused(Case):

    def held(self, read, write, is_right, string):
        """A string is read if it is that of something, and otherwise refused with the index that the document tells."""
        try:
            told = read(string)
        except ParseError as error:
            self.assertEqual(error.index, model_index(string, is_right), repr(string))
            return 0
        self.assertEqual(write(told), string)
        return 1

    def test_machines_near_them(self):
        read = 0
        for seed, machine in enumerate(MACHINES[:20]):
            for string in put_in(write_machine(machine), seed):
                read += self.held(read_machine, write_machine, machine_words, string)
        self.assertGreater(read, 100)

    def test_moves_near_them(self):
        read = 0
        for seed, move in enumerate(MOVES):
            for string in put_in(write_move(move), seed):
                read += self.held(read_move, write_move, move_words, string)
        self.assertGreater(read, 100)

    def test_shops_near_them(self):
        read = 0
        for seed, shop in enumerate(SHOPS[:6]):
            for string in put_in(write_shop(shop), seed, 60):
                read += self.held(read_shop, write_shop, shop_words, string)
        self.assertGreater(read, 60)

    def test_values_near_them(self):
        read = 0
        for seed, value in enumerate([*PLAIN, *BUILT]):
            string = write_value(value)
            for near in put_in(string, seed, 30):
                try:
                    told = read_value(near)
                except ParseError as error:
                    first = near.split("\n")[0]
                    try:
                        right = write_value(read_value(first)) == first
                    except ParseError:
                        right = False
                    self.assertEqual(error.index, 1 if right else 0)
                    self.assertEqual(right, right and "\n" in near)
                else:
                    read += 1
                    self.assertEqual(write_value(told), near)
        self.assertGreater(read, 300)

    def test_machines_line_by_line(self):
        for string, index in (
            ("", 0), ("letters", 0), ("letters 2 2", 0), ("letters x", 0), ("letters 22", 0), ("letters 02", 0), ("letters -0", 0), ("Letters 2", 0), ("letters  2", 0),
            ("letters 2 ", 0), (" letters 2", 0), ("letters 2\n", 1), ("letters 2", 1), ("letters -2", 1), ("letters 9", 1), ("letters 0\nstate", 2), ("letters 2\nstate", 2),
            ("letters 2\nstate a 10 a a\nstate", 3), ("letters 2\nstate a 10 a a\n", 2), ("letters 2\nstate a 10 a a\n\nstate b 10 a a", 2), ("letters 2\nrow a 10 a a", 1),
            ("letters 2\nstate a 10 a a b", 2), ("letters 2\nstate a 10 a", 2), ("letters 2\nstate a 11 a a", 2), ("letters 2\nstate a 1,0 a a", 2), ("letters 2\nstate a 10 a b", 2),
            ("letters 2\nstate A 10 A A", 2), ("letters 2\nstate b 10 b b\nstate a 10 a a", 3), ("letters 2\nstate a 10 a a\nstate a 10 a a", 3),
            ("letters 3\nstate a 10 a a", 2), ("letters 2\nstate  a 10 a a", 1), ("letters 2\nstate a 10 a a ", 1), ("letters 2\nstate a 10 a a\rstate b 10 a a", 2),
            ("letters 2\n" + "\n".join(f"state {name} 10 a a" for name in "abcdefghi"), 10), ("letters 4\nstate a 0123 a a a a\nx", 2), ("letters 2\nstates a 10 a a", 1),
            ("letters 2\nstate a \u0661\u0660 a a", 2), ("letters \u0662", 0), ("letters 2\nstate a 10 a a" + "\nstate" * 5000, 5002),
        ):
            self.refused_with(ParseError(index), read_machine, string)

    def test_moves_line_by_line(self):
        for string, index in (
            ("letters 2", 1), ("letters 2\nrow", 1), ("letters 2\nrow 01", 2), ("letters 2\nrow 01 0 0 0", 2), ("letters 2\nrow 01 0 x", 1), ("letters 2\nrow 01 0 100", 1),
            ("letters 2\nrow 01 0 -1", 2), ("letters 2\nrow 01 0 -0", 1), ("letters 2\nrow 01 0 00", 1), ("letters 2\nrow 01 0 99", 2), ("letters 2\nrow x", 2), ("letters 2\nrow x 1", 2),
            ("letters 2\nrow 01 0 0\nrow 01 1 1", 3), ("letters 2\nrow 01 1 1\nrow 01 1 1", 3), ("letters 2\nrow 10 1 0\nrow 01 1", 3), ("letters 2\nrow 10 1\nrow 0 01 1 1", 2), ("letters 2\nrow 10 1\nrow 0 10 1 1", 3),
            ("letters 2\nrow 10 1 0\nrow 01 1 1\nstate", 3), ("letters -5\nrow 01 0 0", 2), ("letters 2\nrow 10 2 0\nrow 10 1 0\nrow 01 2 2", 4), ("letters 2\nrow 10 0 0 10 0 0", 2),
            ("letters 2\n" + "\n".join("row 10 0 0" for _ in range(61)), 62),
        ):
            self.refused_with(ParseError(index), read_move, string)

    def test_shops_line_by_line(self):
        start = write_machine(ODD)
        for more, index in (
            ("\nword", 4), ("\nword one a", 4), ("\nword one a 0", 4), ("\nword one a 01", 4), ("\nword one a -0", 4), ("\nword one b 1", 4), ("\nword One a 1", 4), ("\nword one a 201", 4),
            ("\nword one a x", 4), ("\nword one a " + "9" * 5000, 4), ("\nwords one a 1", 3), ("\nword one a 1\nword one a 1", 5), ("\nword two a 1\nword one a 1", 5), ("\npromise", 4),
            ("\npromise p idle one", 4), ("\npromise p idle one\nword one", 5), ("\nword one\npromise p idle one\nstate x 01 x x", 6), ("\nword one a 1\npromise p idle one", 5),
            ("\nword one\npromise p idle", 5), ("\nword one\npromise P idle one", 5), ("\nword one\npromise p what one", 5), ("\nword one\npromise p leads one 0 0", 5),
            ("\nword one\npromise p leads one =0", 5), ("\nword one\npromise p leads one =0 =1", 5), ("\nword one\npromise p leads one =2 =2", 5), ("\nword one\npromise p times one 0", 5),
            ("\nword one\npromise p times one =1", 5), ("\nword one\npromise p times one 1" + "0" * 31, 5), ("\nword one\npromise q idle one\npromise p idle one", 6),
            ("\nword one\npromise p idle one\npromise p idle one", 6), ("\nword one\npromise p idle one =", 5), ("\nword one\npromise p idle =one", 5), ("\n", 3), ("\nrow 01 0 0", 3),
            ("".join(f"\nword {name}" for name in "abcdefghi"), 12), ("\nword one" + "".join(f"\npromise {name} idle one" for name in "abcdefghi"), 13), ("\nword one \nx", 3),
            ("\nword one\npromise p calm one two", 5), ("\nword one a 1\npromise p round one\nx", 5), ("\nstate f 01 f f\nword one\npromise", 6),
        ):
            self.refused_with(ParseError(index), read_shop, start + more)
        wide = write_machine(WIDE) + "\nword one " + " ".join(f"{state} {number}" for state, number in wide_word(3, 12))
        self.refused_with(ParseError(10), read_shop, wide)
        self.refused_with(ParseError(5), read_shop, write_machine(LAMP) + "\nword one\npromise p round one")
        self.assertEqual(read_shop(start + "\nword one\npromise p times one 1" + "0" * 30).labels, ("p",))

    def test_values_that_are_none(self):
        wrong = ["", " ", "( ", "(", ")", "( ) )", "( (", "()", "{", "{ 1 }", "{ 1 2 3 }", "{ 1 2 1 3 }", "{ 2 1 1 2 }", "{ =b 1 =a 2 }", "{ { } 1 }", "{ [ 2 01 0 0 ] 1 }", "{ < 2 =0 = > 1 }",
                 "{ ( { } ) 1 }", "{ ( [ 2 01 0 0 ] ) 1 }", "{ ( < 2 =0 = > ) 1 }", "{ ( 1", "{ 1 ( }", "[", "[ ]", "[ 2", "[ 2 ]", "[ 5 01 0 0 ]", "[ 2 01 0 ]", "[ 2 01 0 1 ]", "[ 2 01 0 0", "[ 2 01 0 0 01 0 0 ]",
                 "[ 2 01 1 1 01 1 1 ]", "[ 2 11 0 0 ]", "[ 2 01 0 00 ]", "[ 2 01 0 -1 ]", "[ 3 01 0 0 ]", "[ 2 =01 0 0 ]", "<", "< >", "< 2 = = >", "< 2 =00 = >", "< 2 =01 =0 >", "< 2 =2 = >", "< 2 =0 =0 >",
                 "< 2 =0 >", "< 2 =0 = ", "< 2 =0 = > >", "< 5 =0 = >", "< 2 0 1 >", "< 2 =0 =" + "1" * 41 + " >", "< 2 =" + "0" * 12 + "1 = >", "=A", "=4", "==", "= ", "=" + "a" * 201, "a", "None", "True",
                 "+1", "01", "-0", "--1", "1-", "1 2", "none none", "1" + "0" * 1000, "-1" + "0" * 1000, "\u0661", "1.0", "1_0", "0x1", "( 1  2 )", "( 1 2 ) ", " ( 1 2 )", "( 1\t2 )",
                 "( " * 10 + ") " * 9 + ")", "( " * 9 + "[ 2 01 0 0 ]" + " )" * 9, "{ 1 " * 9 + "( )" + " }" * 9, "( " * 5000, "{ 1 " * 5000, "( " * 3000 + ") " * 3000, "[ 2 " + "01 0 0 " * 61 + "]"]
        for string in wrong:
            self.refused_with(ParseError(0), read_value, string)
            self.refused_with(ParseError(0), read_value, string + "\n1")
        for string in ("1", "( )", "none", "="):
            for more in ("\n", "\n1", "\n\n", "\nx"):
                self.refused_with(ParseError(1), read_value, string + more)
            self.refused_with(ParseError(0), read_value, "\n" + string)
        self.assertEqual(read_value("1" + "0" * 999), 10 ** 999)
        self.assertEqual(read_value("( " * 9 + ") " * 8 + ")"), nested_empty(9))

    def test_strings_of_any_length(self):
        value = tuple(range(-3000, 30000, 7))
        self.assertEqual(read_value(write_value(value)), value)
        wide = {at: ("x" * 200, BIG, {}) for at in range(3000)}
        self.assertEqual(read_value(write_value(wide)), wide)
        every = tuple(Endless(2, text) for text in all_texts(2, 8))
        self.assertEqual(read_value(write_value(every)), every)
        for call in (read_machine, read_move, read_shop):
            self.refused_with(ParseError(1), call, "letters 2\n" + "x" * 100000)
            self.refused_with(ParseError(0), call, "x" * 100000)
        self.assertTrue(is_text(2, "0"))


def nested_empty(deep):
    """Empty tuples, one in another."""
    value = ()
    for _ in range(deep - 1):
        value = (value,)
    return value
