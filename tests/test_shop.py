"""Shops of words, and promises about them."""

import random

from refusals import hold_refusals, known_place, name_place
from support import (
    BIG, FLIP, FOLDED, GRAY, HANOI, LAMP, LONG, ODD, VALUES, WIDE, Case, told_machine, wide_word,
)
from textmovers.base.letters import is_name, is_text
from textmovers.errors import (
    Broken, InvalidMachine, InvalidName, InvalidNumber, InvalidOperation, InvalidText, InvalidWord, Loud, NothingToUndo, TooMany,
    UnknownName,
)
from textmovers.grow.busy import kind, loud_state
from textmovers.machine.known import counter
from textmovers.machine.machines import Machine
from textmovers.move.moves import Move
from textmovers.move.words import is_word, joined_word, led, undone_word, word_move
from textmovers.ring.orders import is_idle_after, order
from textmovers.ring.rounds import goes_round
from textmovers.shop.shop import MAX_KEPT, MAX_PROMISES, SORTS, Shop

A, B, C = (("a", 1),), (("b", 1),), (("c", 1),)


def filled(machine=HANOI, **words):
    """A shop with these words."""
    shop = Shop(machine)
    for name, word in words.items():
        shop.keep(name, word)
    return shop


def state(shop):
    """All that a shop tells, and what can be taken back and done again."""
    told = [shop.machine, shop.names, shop.labels, shop.words, shop.promises, str(shop), len(shop), list(shop)]
    back = shop.twin()
    ahead = []
    while True:
        try:
            ahead.append((back.redo(), back.words, back.promises))
        except NothingToUndo:
            break
    behind = []
    while True:
        try:
            behind.append((back.undo(), back.words, back.promises))
        except NothingToUndo:
            break
    return told, ahead, behind


class Plain:
    """What the document says of a shop: a table of words, one of promises, and those that were and will be."""

    def __init__(self, machine):
        self.machine, self.words, self.promises, self.past, self.coming = machine, {}, {}, [], []

    def change(self, words, promises):
        self.past.append((self.words, self.promises))
        self.coming = []
        self.words, self.promises = words, promises

    def truth(self, promise, words):
        sort, move = promise[0], word_move(self.machine, words[promise[1]])
        if sort == "alike":
            return move.rows == word_move(self.machine, words[promise[2]]).rows
        if sort == "swap":
            other = word_move(self.machine, words[promise[2]])
            return (move * other).rows == (other * move).rows
        if sort == "calm":
            return kind(move)[0] in ("shallow", "quiet")
        if sort == "idle":
            return move.is_idle
        if sort == "leads":
            return led(self.machine, words[promise[1]], promise[2]) == promise[3]
        if sort == "round":
            return goes_round(move)
        return order(move) is not None and promise[2] % order(move) == 0

    def named(self, promise):
        return promise[1:3] if promise[0] in ("alike", "swap") else promise[1:2]

    def about(self, name):
        return [label for label in sorted(self.promises) if name in self.named(self.promises[label])]

    def keep(self, name, word):
        if not is_name(name):
            raise InvalidName("")
        if not is_word(self.machine, word):
            raise InvalidWord("")
        self.put(name, word)

    def put(self, name, word):
        if name not in self.words and len(self.words) >= 8:
            raise TooMany(8)
        word_move(self.machine, word)
        words = {**self.words, name: word}
        for label in self.about(name):
            if not self.truth(self.promises[label], words):
                raise Broken(label)
        self.change(words, self.promises)

    def link(self, name, one, other):
        if not is_name(name):
            raise InvalidName("")
        for each in (one, other):
            if each not in self.words:
                raise UnknownName(each)
        self.put(name, joined_word(self.machine, self.words[one], self.words[other]))

    def turn_back(self, name):
        if name not in self.words:
            raise UnknownName(name)
        self.put(name, undone_word(self.machine, self.words[name]))

    def drop(self, name):
        if name not in self.words:
            raise UnknownName(name)
        if self.about(name):
            raise InvalidOperation("")
        self.change({one: word for one, word in self.words.items() if one != name}, self.promises)

    def promise(self, label, promise):
        if not is_name(label):
            raise InvalidName("")
        if any(name not in self.words for name in self.named(promise)) or label in self.promises:
            raise InvalidOperation("")
        if len(self.promises) >= 8:
            raise TooMany(8)
        if promise[0] in ("round", "times") and loud_state(self.machine) is not None:
            raise Loud(loud_state(self.machine))
        if not self.truth(promise, self.words):
            raise Broken(label)
        self.change(self.words, {**self.promises, label: promise})

    def release(self, label):
        if label not in self.promises:
            raise UnknownName(label)
        self.change(self.words, {one: told for one, told in self.promises.items() if one != label})

    def would_break(self, name, word):
        if name not in self.words:
            raise UnknownName(name)
        if not is_word(self.machine, word):
            raise InvalidWord("")
        word_move(self.machine, word)
        words = {**self.words, name: word}
        return tuple(label for label in self.about(name) if not self.truth(self.promises[label], words))

    def undo(self, many=1):
        if many > len(self.past):
            raise NothingToUndo(many)
        for _ in range(many):
            self.coming.append((self.words, self.promises))
            self.words, self.promises = self.past.pop()
        return len(self.past)

    def redo(self, many=1):
        if many > len(self.coming):
            raise NothingToUndo(many)
        for _ in range(many):
            self.past.append((self.words, self.promises))
            self.words, self.promises = self.coming.pop()
        return len(self.past)


def outcome(call, *args, **more):
    """What a call returns, or its error and what that keeps."""
    try:
        return call(*args, **more)
    except Exception as error:
        return type(error).__name__, [value for key, value in vars(error).items()]


class AgainstThePlainTable(Case):

    def random_call(self, chance, machine, names, labels):
        name, one, other = (chance.choice(names) for _ in range(3))
        label = chance.choice(labels)
        word = tuple((chance.choice(machine.states), chance.choice((1, 1, -1, 2))) for _ in range(chance.randint(0, 3)))
        text, come = ("".join(chance.choice("01") for _ in range(2)) for _ in range(2))
        promise = chance.choice([("alike", one, other), ("calm", one), ("idle", one), ("leads", one, text, come), ("leads", one, text, text),
                                 ("round", one), ("swap", one, other), ("times", one, chance.choice((1, 2, 4, 12)))])
        many = chance.choice((0, 1, 1, 2, 3))
        return chance.choice([
            ("keep", (name, word), {}), ("keep", (name, word), {}), ("link", (name, one, other), {}), ("turn_back", (name,), {}), ("drop", (name,), {}),
            ("promise", (label, promise), {}), ("promise", (label, promise), {}), ("promise", (label, promise), {}), ("release", (label,), {}),
            ("would_break", (name, word), {}), ("undo", (), {"many": many}), ("redo", (), {"many": many}), ("undo", (), {}), ("redo", (), {}),
        ])

    def test_calls_by_chance(self):
        seen = {}
        for machine in (HANOI, GRAY, ODD, FOLDED, LAMP, FLIP, LONG):
            for seed in range(4):
                chance = random.Random(seed)
                shop, plain = Shop(machine), Plain(machine)
                names, labels = list("abcdefghij"[:chance.choice((2, 4, 10))]), list("pqrstuvwxy"[:chance.choice((3, 10))])
                for _ in range(120):
                    name, args, more = self.random_call(chance, machine, names, labels)
                    told = outcome(getattr(plain, name), *args, **more)
                    self.assertEqual(outcome(getattr(shop, name), *args, **more), told, (name, args))
                    seen[name, str(told)[:14]] = seen.get((name, str(told)[:14]), 0) + 1
                    self.assertEqual((shop.words, shop.promises), (plain.words, plain.promises))
                    self.assertEqual((list(shop.words), list(shop.promises)), (sorted(plain.words), sorted(plain.promises)))
                    self.assertEqual((shop.names, shop.labels), (tuple(sorted(plain.words)), tuple(sorted(plain.promises))))
                    self.assertEqual(str(shop), f"shop of {len(plain.words)} words, {len(plain.promises)} promises")
        for what in ("('Broken', ['", "('InvalidOper", "('UnknownName", "None"):
            self.assertTrue(any(told.startswith(what) for _, told in seen), what)


class Words(Case):

    def test_keep(self):
        shop = Shop(HANOI)
        self.assertEqual((shop.machine, shop.names, shop.labels, shop.words, shop.promises), (HANOI, (), (), {}, {}))
        self.assertIsNone(shop.keep("two", A))
        shop.keep("one", B)
        self.assertEqual((shop.names, shop.words, list(shop.words)), (("one", "two"), {"one": B, "two": A}, ["one", "two"]))
        shop.keep("two", (("a", 1), ("a", 1)))
        self.assertEqual(shop["two"], (("a", 1), ("a", 1)))
        self.assertEqual((len(shop), list(shop), "one" in shop, "three" in shop), (2, ["one", "two"], True, False))

    def test_link_and_turn_back(self):
        shop = filled(one=(("a", 1), ("b", 2)), two=(("b", -2), ("c", 1)))
        self.assertIsNone(shop.link("both", "one", "two"))
        self.assertEqual(shop["both"], (("a", 1), ("c", 1)))
        shop.link("one", "one", "one")
        self.assertEqual(shop["one"], (("a", 1), ("b", 2), ("a", 1), ("b", 2)))
        self.assertIsNone(shop.turn_back("one"))
        self.assertEqual(shop["one"], (("b", -2), ("a", -1), ("b", -2), ("a", -1)))
        long = filled(one=(("e", 100),), two=(("a", 101),), three=(("e", 101),))
        long.link("four", "one", "one")
        self.assertEqual(long["four"], (("e", 200),))
        for pair in (("one", "two"), ("three", "one"), ("four", "one")):
            self.refused_with(TooMany(200), long.link, "x", *pair)

    def test_moves_and_texts(self):
        shop = filled(one=(("a", 1), ("b", 1)))
        self.assertEqual(shop.move("one"), word_move(HANOI, shop["one"]))
        for text in ("", "0", "0021", "2" * 200):
            self.assertEqual(shop.led("one", text), led(HANOI, shop["one"], text))

    def test_eight_words(self):
        shop = filled(**{name: () for name in "abcdefgh"})
        before = state(shop)
        self.refused_with(TooMany(8), shop.keep, "i", ())
        self.refused_with(TooMany(8), shop.link, "i", "a", "b")
        # It comes ahead of too many rests, and behind all that is invalid.
        wide = filled(WIDE, **{name: () for name in "abcdefgh"})
        self.refused_with(TooMany(8), wide.keep, "i", wide_word(3, 12))
        self.refused_with(TooMany(60), wide.keep, "a", wide_word(3, 12))
        self.refused(InvalidWord, wide.keep, "i", (("q", 1),))
        self.assertEqual(state(shop), before)
        shop.keep("a", A)
        shop.drop("b")
        shop.keep("i", B)
        self.assertEqual(shop.names, tuple("acdefghi"))
        self.assertEqual((MAX_KEPT, MAX_PROMISES, SORTS), (8, 8, ("alike", "calm", "idle", "leads", "round", "swap", "times")))

    def test_moves_that_are_too_great(self):
        word = wide_word(3, 12)
        self.refused_with(TooMany(60), word_move, WIDE, word)
        shop = filled(WIDE, one=word[:2], two=word[2:4], none=())
        before = state(shop)
        self.refused_with(TooMany(60), shop.keep, "new", word)
        self.refused_with(TooMany(60), shop.keep, "one", word)
        self.refused_with(TooMany(60), shop.would_break, "one", word)
        self.assertEqual(state(shop), before)
        # A word that can be kept, the undone one of which has a beginning that is too great.
        great = outcome(word_move, WIDE, word)
        found = [one for one in (wide_word(seed, 6) for seed in range(400))
                 if outcome(word_move, WIDE, one) != great and outcome(word_move, WIDE, undone_word(WIDE, one)) == great]
        self.assertNotEqual(found, [])
        shop.keep("one", found[0])
        self.refused_with(TooMany(60), shop.turn_back, "one")
        self.assertEqual(shop["one"], found[0])

    def test_drop(self):
        shop = filled(one=A, two=B, three=A)
        shop.promise("same", ("alike", "one", "three"))
        shop.promise("calm", ("calm", "two"))
        for name in ("one", "two", "three"):
            self.refused(InvalidOperation, shop.drop, name)
        shop.release("calm")
        self.assertIsNone(shop.drop("two"))
        self.assertEqual(shop.names, ("one", "three"))
        self.refused_with(UnknownName("two"), shop.drop, "two")

    def test_what_is_handed_out_is_not_the_shops(self):
        shop = filled(one=A)
        shop.promise("calm", ("calm", "one"))
        for told in (shop.words, shop.promises):
            told.clear()
            told["x"] = 1
        self.assertEqual((shop.words, shop.promises), ({"one": A}, {"calm": ("calm", "one")}))
        for name in ("machine", "names", "labels", "words", "promises"):
            with self.assertRaises(AttributeError):
                setattr(shop, name, ())
        for name in shop:
            shop.keep(name + "x", B)
        self.assertEqual(shop.names, ("one", "onex"))

    def test_equal_shops(self):
        one, other = filled(one=A, two=B), filled(two=B, one=A)
        self.assertIs(one == other, True)
        one.promise("p", ("calm", "one"))
        self.assertIs(one == other, False)
        self.assertIs(one != other, True)
        other.promise("p", ("calm", "one"))
        self.assertIs(one == other, True)
        # Only machine, words and promises count.
        other.undo(), other.redo(), other.keep("two", B)
        self.assertIs(one == other, True)
        self.assertIs(Shop(ODD) == Shop(counter(2)), True)
        self.assertIs(Shop(ODD) == Shop(GRAY), False)
        for value in [*VALUES, str(one), {"one": A}]:
            self.assertIs(one == value, False)
            self.assertIs(one != value, True)


class Promises(Case):

    def test_true_and_not_true(self):
        words = {"a": A, "b": B, "ab": (("a", 1), ("b", 1)), "ba": (("b", 1), ("a", 1)), "aa": (("a", 2),), "none": (), "e": (("e", 3),)}
        true = [("alike", "aa", "none"), ("alike", "aa", "e"), ("alike", "a", "a"), ("calm", "a"), ("calm", "none"), ("idle", "aa"), ("idle", "none"),
                ("leads", "a", "01", "11"), ("leads", "none", "", ""), ("round", "ab"), ("round", "ba"), ("swap", "a", "aa"), ("swap", "a", "a"),
                ("times", "a", 2), ("times", "a", 10 ** 30), ("times", "none", 1), ("times", "none", 7), ("times", "aa", 10 ** 30), ("times", "b", 4)]
        untrue = [("alike", "a", "b"), ("alike", "ab", "ba"), ("idle", "a"), ("idle", "ab"), ("leads", "a", "01", "01"),
                  ("round", "a"), ("round", "none"), ("swap", "a", "b"), ("times", "a", 1), ("times", "a", 3), ("times", "ab", 10 ** 30), ("times", "a", 10 ** 30 - 1)]
        shop = filled(HANOI, **words)
        for told in true:
            self.assertIsNone(shop.promise("p", told), told)
            self.assertEqual(shop.promises, {"p": told})
            self.assertIsNone(shop.release("p"))
        for told in untrue:
            self.refused_with(Broken("p"), shop.promise, "p", told)
            self.assertEqual(shop.promises, {})

    def test_calm_ones(self):
        shop = filled(LAMP, one=A, none=(), back=(("a", 1), ("a", -1)))
        self.refused_with(Broken("p"), shop.promise, "p", ("calm", "one"))
        shop.promise("p", ("calm", "none"))
        shop.promise("q", ("calm", "back"))
        late = filled(LONG, c=(("c", 1),), a=A)
        self.refused_with(Broken("p"), late.promise, "p", ("calm", "c"))
        late.promise("p", ("calm", "a"))

    def test_values_that_are_no_promises(self):
        shop = filled(HANOI, one=A, two=B)
        wrong = [
            ("alike", "one"), ("alike", "one", "two", "two"), ("alike", "one", "three"), ("alike", "three", "one"), ("alike", "one", None), ("alike",),
            ("calm",), ("calm", "one", "two"), ("calm", "x"), ("idle", ["one"]), ("leads", "one", "0"), ("leads", "one", "0", "00"), ("leads", "one", "0", "3"),
            ("leads", "one", "0" * 201, "0" * 201), ("leads", "one", 0, 0), ("leads", "one", "0", "1", "2"), ("leads", "x", "", ""), ("round",), ("round", "x"),
            ("swap", "one"), ("swap", "one", "x"), ("times", "one"), ("times", "one", 0), ("times", "one", -2), ("times", "one", True), ("times", "one", "2"),
            ("times", "one", 10 ** 30 + 1), ("times", "one", BIG), ("times", "x", 2), ("times", "one", 2, 2), ("times", "one", None), ["idle", "one"], "idle",
            ("Idle", "one"), ("idles", "one"), (("idle",), "one"), ({}, "one"), ([], "one"), (True, "one"), (None, "one"), ("", "one"), (), "one", {"idle": "one"},
        ]
        before = state(shop)
        for value in [*wrong, *VALUES, shop, HANOI]:
            self.refused(InvalidOperation, shop.promise, "p", value)
            self.refused(InvalidName, shop.promise, "P", value)
        self.assertEqual(state(shop), before)

    def test_labels_and_eight_of_them(self):
        shop = filled(HANOI, one=A)
        for label in "abcdefg":
            shop.promise(label, ("calm", "one"))
        self.refused(InvalidOperation, shop.promise, "a", ("calm", "one"))
        shop.promise("one", ("times", "one", 2))
        self.refused(InvalidOperation, shop.promise, "a", ("idle", "one"))
        self.refused_with(TooMany(8), shop.promise, "i", ("calm", "one"))
        self.refused_with(TooMany(8), shop.promise, "i", ("idle", "one"))
        loud = filled(LAMP, one=())
        for label in "abcdefgh":
            loud.promise(label, ("idle", "one"))
        self.refused_with(TooMany(8), loud.promise, "i", ("round", "one"))
        self.assertEqual(shop.labels, (*"abcdefg", "one"))
        shop.release("one")
        self.refused_with(UnknownName("one"), shop.release, "one")

    def test_loud_machines(self):
        for machine, first in ((LAMP, "a"), (LONG, "c")):
            shop = filled(machine, one=(("a", 1),), none=())
            for told in (("round", "one"), ("times", "one", 1), ("times", "none", 1), ("round", "none")):
                self.refused_with(Loud(first), shop.promise, "p", told)
            for at, told in enumerate((("idle", "none"), ("alike", "one", "one"), ("swap", "one", "none"), ("leads", "none", "01", "01"), ("calm", "none"))):
                shop.promise("pqrst"[at], told)
            self.refused_with(Broken("x"), shop.promise, "x", ("idle", "one"))
            self.refused(InvalidOperation, shop.promise, "p", ("round", "one"))

    def test_promises_are_held(self):
        shop = filled(HANOI, one=A, two=B, three=(("a", 3),))
        shop.promise("same", ("alike", "one", "three"))
        shop.promise("back", ("times", "one", 2))
        shop.promise("leads", ("leads", "two", "0", "2"))
        before = state(shop)
        self.refused_with(Broken("back"), shop.keep, "one", (("a", 1), ("b", 1)))
        self.refused_with(Broken("same"), shop.keep, "three", B)
        self.refused_with(Broken("same"), shop.keep, "one", B)
        self.refused_with(Broken("leads"), shop.keep, "two", C)
        self.refused_with(Broken("leads"), shop.link, "two", "two", "two")
        self.refused_with(Broken("back"), shop.link, "one", "one", "two")
        self.assertEqual(state(shop), before)
        shop.turn_back("one"), shop.turn_back("two"), shop.turn_back("three")
        shop.keep("one", (("a", 5),))
        self.assertEqual(shop.would_break("one", (("a", 1), ("b", 1))), ("back", "same"))
        self.assertEqual(shop.would_break("one", (("b", 1),)), ("same",))
        self.assertEqual(shop.would_break("one", A), ())
        self.assertEqual(shop.would_break("two", A), ("leads",))
        self.assertEqual(shop["one"], (("a", 5),))
        turned = filled(GRAY, one=(("b", 1), ("a", 1)))
        turned.promise("p", ("leads", "one", "00", "10"))
        self.assertEqual(turned.would_break("one", undone_word(GRAY, turned["one"])), ("p",))
        odd = filled(ODD, one=A)
        odd.promise("p", ("leads", "one", "00", "10"))
        self.refused_with(Broken("p"), odd.turn_back, "one")
        # Only promises that name the word are asked for.
        self.assertEqual(shop.would_break("three", B), ("same",))

    def great(self):
        """A shop in which a swap of two kept words has too many rests, and one in which it has not."""
        for seed in range(300):
            one, other = wide_word(seed, 4), wide_word(seed + 1000, 4)
            told = [outcome(word_move, WIDE, word) for word in (one, other)]
            if all(isinstance(move, Move) for move in told) and outcome(lambda: told[0] * told[1]) == ("TooMany", [60]):
                return one, other
        raise AssertionError("no such words")

    def test_too_many_ahead_of_at_and_behind_a_label(self):
        one, other = self.great()
        shop = filled(WIDE, one=one, two=other, three=())
        self.refused_with(TooMany(60), shop.promise, "p", ("swap", "one", "two"))
        self.refused_with(TooMany(60), shop.promise, "p", ("swap", "two", "one"))
        shop = filled(WIDE, one=(), two=other, three=())
        shop.promise("m", ("swap", "one", "two"))
        self.refused_with(TooMany(60), shop.keep, "one", one)
        self.refused_with(TooMany(60), shop.would_break, "one", one)
        for label in ("n", "z"):
            shop.promise(label, ("idle", "one"))
        # Ahead of what stands behind it.
        self.refused_with(TooMany(60), shop.keep, "one", one)
        shop.promise("l", ("idle", "one"))
        # Behind what stands ahead of it; but all are asked for here.
        self.refused_with(Broken("l"), shop.keep, "one", one)
        self.refused_with(TooMany(60), shop.would_break, "one", one)
        self.assertEqual(shop.would_break("one", (("a", 1),))[0], "l")
        self.assertEqual((shop["one"], shop.labels), ((), ("l", "m", "n", "z")))

    def test_what_rounds_and_times_raise(self):
        seen = {}
        machine = told_machine("machine of 3 letters: a 120 e b e, b 201 a e e, c 021 e c e, d 102 d e e, e 012 e e e")
        self.assertIsNone(loud_state(machine))
        for machine in (WIDE, machine):
            for seed in range(60):
                word = wide_word(seed, 3, machine.states[:3])
                move = outcome(word_move, machine, word)
                if not isinstance(move, Move):
                    continue
                shop = filled(machine, one=word)
                for told, call, args in ((("round", "one"), goes_round, ()), (("times", "one", 12), is_idle_after, (12,))):
                    model = outcome(call, move, *args)
                    expected = {True: None, False: ("Broken", ["p"])}.get(model, model) if isinstance(model, bool) else model
                    self.assertEqual(outcome(shop.promise, "p", told), expected)
                    seen[str(model)] = seen.get(str(model), 0) + 1
                    if expected is None:
                        shop.release("p")
        self.assertGreaterEqual(len(seen), 2, seen)


class TakenBack(Case):

    def test_undo_and_redo(self):
        shop = Shop(HANOI)
        told = [state(shop)[0]]
        for call in (lambda: shop.keep("one", A), lambda: shop.keep("two", B), lambda: shop.promise("p", ("calm", "one")), lambda: shop.link("three", "one", "two"),
                     lambda: shop.turn_back("three"), lambda: shop.release("p"), lambda: shop.drop("one"), lambda: shop.keep("two", B)):
            call()
            told.append(state(shop)[0])
        for at in range(7, -1, -1):
            self.assertEqual(shop.undo(), at)
            self.assertEqual(state(shop)[0], told[at])
        self.refused_with(NothingToUndo(1), shop.undo)
        for at in range(1, 9):
            self.assertEqual(shop.redo(), at)
            self.assertEqual(state(shop)[0], told[at])
        self.refused_with(NothingToUndo(1), shop.redo)
        for many, left in ((3, 5), (0, 5), (5, 0), (0, 0)):
            self.assertEqual(shop.undo(many=many), left)
            self.assertEqual(state(shop)[0], told[left])
        for many, left in ((0, 0), (6, 6), (2, 8)):
            self.assertEqual(shop.redo(many=many), left)
            self.assertEqual(state(shop)[0], told[left])

    def test_so_many(self):
        shop = filled(HANOI, one=A, two=B)
        for many in (3, 4, 100, 10 ** 59):
            self.refused_with(NothingToUndo(many), shop.undo, many=many)
            self.refused_with(NothingToUndo(many), shop.redo, many=many)
        for value in VALUES:
            if type(value) is not int or not 0 <= value < 10 ** 60:
                self.refused_with(InvalidNumber(value), shop.undo, many=value)
                self.refused_with(InvalidNumber(value), shop.redo, many=value)
        self.assertEqual((shop.undo(many=0), shop.names), (2, ("one", "two")))
        with self.assertRaises(TypeError):
            shop.undo(1)
        with self.assertRaises(TypeError):
            shop.redo(1)

    def test_a_new_call_ends_redoing(self):
        for call in (lambda shop: shop.keep("x", A), lambda shop: shop.turn_back("one"), lambda shop: shop.link("one", "one", "one"),
                     lambda shop: shop.promise("p", ("calm", "one")), lambda shop: shop.drop("one"), lambda shop: shop.keep("one", A)):
            shop = filled(HANOI, one=A, two=B)
            shop.undo()
            call(shop)
            self.refused_with(NothingToUndo(1), shop.redo)
            self.assertEqual(shop.undo(many=2), 0)

    def test_calls_that_are_refused_and_questions_do_not_count(self):
        shop = filled(HANOI, one=A, two=B)
        shop.promise("p", ("calm", "one"))
        shop.undo()
        for call in (lambda: shop.keep("One", A), lambda: shop.keep("one", (("q", 1),)), lambda: shop.drop("x"), lambda: shop.release("p"), lambda: shop.turn_back("x"),
                     lambda: shop.promise("p", ("idle", "one")), lambda: shop.link("x", "one", "y"), lambda: shop.undo(many=9), lambda: shop["x"]):
            outcome(call)
        shop.would_break("one", B), shop.move("one"), shop.led("one", "0"), shop.words, shop.twin(), str(shop), shop == shop, shop.during(len)
        self.assertEqual(shop.redo(), 3)
        self.assertEqual(shop.labels, ("p",))


class Blocks(Case):

    def test_left_plainly(self):
        shop = filled(HANOI, one=A, two=B)
        shop.undo()
        before = state(shop)
        with shop.trial() as same:
            self.assertIs(same, shop)
            shop.keep("three", C)
            shop.promise("p", ("calm", "one"))
            self.assertEqual((shop.names, shop.labels), (("one", "three"), ("p",)))
            self.assertEqual(shop.undo(many=3), 0)
        self.assertEqual(state(shop), before)
        self.assertEqual((shop.redo(), shop.names), (2, ("one", "two")))

    def test_left_by_an_error(self):
        shop = filled(HANOI, one=A, two=B)
        before = state(shop)
        for error in (ValueError("x"), KeyError("x"), Broken("p")):
            with self.assertRaises(type(error)) as caught:
                with shop.trial():
                    shop.drop("one")
                    raise error
            self.assertIs(caught.exception, error)
            self.assertEqual(state(shop), before)
        with self.assertRaises(Broken):
            with shop.trial() as same:
                same.promise("p", ("idle", "one"))
        with self.assertRaises(ZeroDivisionError):
            shop.during(lambda same: [same.drop("two"), 1 // 0])
        self.assertEqual(state(shop), before)

    def test_one_in_another(self):
        shop = filled(HANOI, one=A)
        before = state(shop)
        with shop.trial():
            shop.keep("two", B)
            middle = state(shop)
            with shop.trial() as same:
                same.keep("three", C)
                shop.undo(many=3)
                self.assertEqual(shop.names, ())
            self.assertEqual(state(shop), middle)
            self.assertEqual(shop.during(lambda same: [same.drop("two"), same.during(lambda again: [again.drop("one"), again.names])[1], same.names]),
                             [None, (), ("one",)])
            self.assertEqual(state(shop), middle)
        self.assertEqual(state(shop), before)

    def test_during(self):
        shop = filled(HANOI, one=A)
        self.assertEqual(shop.during(lambda same: same is shop), True)
        self.assertEqual(shop.during(lambda same: [same.turn_back("one"), same["one"]]), [None, (("a", -1),)])
        self.assertIsNone(shop.during(lambda same: None))
        self.assertEqual(shop["one"], A)

    def test_a_trial_is_for_one_block(self):
        shop = filled(HANOI, one=A)
        trial = shop.trial()
        shop.keep("two", B)
        with trial:
            shop.drop("two")
            with self.assertRaises(InvalidOperation):
                with trial:
                    self.fail("a second block")
            self.assertEqual(shop.names, ("one",))
        # It begins where the block does.
        self.assertEqual(shop.names, ("one", "two"))
        with self.assertRaises(InvalidOperation):
            trial.__enter__()
        self.assertEqual(shop.names, ("one", "two"))

    def test_return_and_break(self):
        shop = filled(HANOI, one=A)

        def inner():
            with shop.trial():
                shop.drop("one")
                return shop.names
        self.assertEqual(inner(), ())
        for _ in range(2):
            with shop.trial():
                shop.drop("one")
                break
        self.assertEqual(shop.names, ("one",))


class Twins(Case):

    def test_independent_with_all(self):
        shop = filled(HANOI, one=A, two=B)
        shop.promise("p", ("calm", "one"))
        shop.undo()
        twin = shop.twin()
        self.assertIsNot(twin, shop)
        self.assertEqual(state(twin), state(shop))
        before = state(shop)
        twin.redo(), twin.keep("two", C), twin.drop("two")
        self.assertEqual(state(shop), before)
        self.assertEqual((shop.redo(), twin.undo(many=2), twin == shop), (3, 3, True))
        shop.drop("two")
        self.assertEqual(twin.names, ("one", "two"))
        self.assertEqual((twin.undo(), twin.labels, shop.labels), (2, (), ("p",)))

    def test_out_of_a_block(self):
        shop = filled(HANOI, one=A)
        with shop.trial():
            shop.keep("two", B)
            twin = shop.twin()
        self.assertEqual((twin.names, shop.names), (("one", "two"), ("one",)))
        self.assertEqual((twin.undo(many=2), twin.redo(many=2)), (0, 2))


class Refused(Case):

    def test_wrong_arguments(self):
        words = [(), A, (("e", -2),)]
        shop = filled(HANOI, one=A, two=B)
        shop.promise("p", ("calm", "one"))
        before = state(shop)

        def names(args, at):
            return name_place(args, at)

        def words_here(args, at):
            return None if is_word(HANOI, args[at]) else InvalidWord("")

        def texts_here(args, at):
            return None if is_text(3, args[at]) else InvalidText("")

        def inside(call):
            """The call for a twin, so that each trial finds the same shop."""
            return lambda *args: call(shop.twin(), *args)
        known = known_place(("one", "two"))
        hold_refusals(self, inside(lambda one, *args: one.keep(*args)), (["one", "x"], names), (words, words_here))
        hold_refusals(self, inside(lambda one, *args: one.link(*args)), (["one", "x"], names), (["one"], known), (["two"], known))
        hold_refusals(self, inside(lambda one, *args: one.turn_back(*args)), (["one"], known))
        hold_refusals(self, inside(lambda one, *args: one.drop(*args)), (["two"], known),
                      then=lambda args: InvalidOperation("") if args[0] == "one" else None)
        hold_refusals(self, inside(lambda one, *args: one.release(*args)), (["p"], known_place(["p"])))
        hold_refusals(self, inside(lambda one, *args: one[args[0]]), (["one"], known))
        hold_refusals(self, inside(lambda one, *args: one.move(*args)), (["one"], known))
        hold_refusals(self, inside(lambda one, *args: one.led(*args)), (["one"], known), (["", "012"], texts_here))
        hold_refusals(self, inside(lambda one, *args: one.would_break(*args)), (["one"], known), (words, words_here))
        self.assertEqual(state(shop), before)
        for value in VALUES:
            self.assertIs(value in shop, value in ("one", "two") if isinstance(value, str) else False)

    def test_machines(self):
        for value in VALUES:
            if isinstance(value, Machine):
                self.assertEqual(Shop(value).machine, value)
            else:
                self.refused(InvalidMachine, Shop, value)

    def test_the_first_error_counts(self):
        shop = filled(HANOI, one=A)
        self.refused(InvalidName, shop.keep, "One", None)
        self.refused(InvalidName, shop.link, "One", "x", "y")
        self.refused_with(UnknownName("x"), shop.link, "n", "x", "y")
        self.refused_with(UnknownName("y"), shop.link, "n", "one", "y")
        self.refused_with(UnknownName("x"), shop.led, "x", "3")
        self.refused_with(UnknownName("x"), shop.would_break, "x", None)
        self.refused(InvalidName, shop.promise, "", None)
