"""What the tests share: machines, values of every kind, and plain models to compare with."""

import itertools
import random
import re
import unittest

from textmovers.grow.busy import is_quiet
from textmovers.machine.machines import Machine
from textmovers.move.moves import Move, joined_move, move_of
from textmovers.move.tables import least_rows, product_rows, rows_from

SWAP = (1, 0)
STAY = (0, 1)

ODD = Machine(2, {"a": (SWAP, ("e", "a")), "e": (STAY, ("e", "e"))})
GRAY = Machine(2, {"a": (SWAP, ("e", "e")), "b": (STAY, ("b", "a")), "e": (STAY, ("e", "e"))})
HANOI = Machine(3, {
    "a": ((1, 0, 2), ("e", "e", "a")),
    "b": ((2, 1, 0), ("e", "b", "e")),
    "c": ((0, 2, 1), ("c", "e", "e")),
    "e": ((0, 1, 2), ("e", "e", "e")),
})
LAMP = Machine(2, {"a": (SWAP, ("a", "b")), "b": (STAY, ("a", "b"))})
FOLDED = Machine(2, {"a": (SWAP, ("e", "b")), "b": (STAY, ("e", "a")), "e": (STAY, ("e", "e"))})

LONG = ODD.with_state("c", STAY, ("c", "a"))
FLIP = Machine(2, {"a": (SWAP, ("e", "e")), "e": (STAY, ("e", "e"))})


def told_machine(string):
    """The machine that is shown by a string."""
    letters, states = re.fullmatch("machine of (.) letters: (.*)", string).groups()
    table = {}
    for name, turn, *nexts in (part.split() for part in states.split(", ")):
        table[name] = (tuple(map(int, turn)), tuple(nexts))
    return Machine(int(letters), table)


# Their cores have just 60 and just 61 moves.
SIXTY = told_machine("machine of 3 letters: a 210 b a e, b 102 d c c, c 021 d e e, d 201 e e e, e 012 e e e")
MORE = told_machine("machine of 3 letters: a 021 d e d, b 012 g g d, c 120 g g d, d 021 g g g, "
                    "e 021 g c g, f 210 a f g, g 012 g g g")
# Its words have moves of very many rests.
WIDE = told_machine("machine of 4 letters: a 2013 b c b c, b 3012 c c c d, c 0123 d d d d, d 2031 e e e e, "
                    "e 0132 f f g g, f 3120 h h h g, g 2301 h f h h, h 0123 h h h h")


def nested(kind, deep):
    """A value of tuples, lists or dicts, one in another."""
    value = 0
    for _ in range(deep):
        value = {"a": value} if kind is dict else kind([value])
    return value


BIG = 10 ** 99

# Values of all kinds that a call may be passed, none of them fit for every place.
VALUES = [
    None, True, False, 0, 1, -1, 2, 3, 4, 5, 8, 60, 61, 100, 101, 200, 201, -100, -101,
    10 ** 59, 10 ** 60 - 1, 10 ** 60, -10 ** 60, BIG, -BIG,
    "", "0", "1", "01", "012", "3", "a", "e", "q", "A", "ab", "a b", "a\n", "\n", " ", "a" * 8, "a" * 9,
    "0" * 200, "0" * 201, "x" * 3000, "idle",
    (), (0,), (1,), (0, 1), (1, 0), (True, False), (0, 1, 2), (0, 0), (1, 2), (0, 1, 2, 3), (BIG, -BIG),
    ("a",), ("a", "e"), ("a", 1), (("a", 1),), (("a", 0),), (("a", True),), ((0, 1), ("a", "a")), (None, None),
    ((0, 1), (0, 0)), (((0, 1), (0, 0)),), ("apart", "0"), ("alike", (("a", "a"),)),
    [], [0], [0, 1], ["a"], [("a", 1)], [["a", 1]],
    {}, {"a": "e"}, {"a": 1}, {1: "a"}, {"a": ((0, 1), ("a", "a"))}, {"a": [(0, 1), ("a", "a")]}, {(): ()},
    nested(tuple, 10), nested(list, 10), nested(dict, 10),
    ODD, HANOI, Move(2, (SWAP, (0, 0))), Move(3, ((0, 1, 2), (0, 0, 0))),
]

# Those among them that are no integer from 2 to 4.
NO_LETTERS = [value for value in VALUES if type(value) is not int or not 2 <= value <= 4]


class Case(unittest.TestCase):
    """A test that tells which error a call raises, and what the error keeps."""

    def refused(self, error, call, *args, **more):
        """The call raises just this error, which is given back."""
        try:
            result = call(*args, **more)
        except Exception as caught:
            self.assertIs(type(caught), error, f"{caught!r} for {args!r}"[:500])
            return caught
        self.fail(f"no {error.__name__} for {args!r}, but {result!r}"[:500])

    def refused_with(self, told, call, *args, **more):
        """The call raises an error like this one, which keeps the same."""
        caught = self.refused(type(told), call, *args, **more)
        for field in told.__dict__:
            kept = getattr(caught, field)
            self.assertIs(type(kept), type(getattr(told, field)))
            self.assertEqual(kept, getattr(told, field))


def all_texts(letters, length):
    """All texts of a length, in order."""
    return ["".join(signs) for signs in itertools.product("0123"[:letters], repeat=length)]


def short_texts(letters, most):
    """All texts of at most so many letters, in order."""
    return [text for length in range(most + 1) for text in all_texts(letters, length)]


def turns(letters):
    """All turns of so many letters."""
    return list(itertools.permutations(range(letters)))


def random_table(chance, letters, many):
    """A dict of states with names, turns and next states, by chance."""
    names = set()
    while len(names) < many:
        names.add("".join(chance.choice("abyz") for _ in range(chance.randint(1, 8))))
    names = chance.sample(sorted(names), many)
    return {
        name: (chance.choice(turns(letters)), tuple(chance.choice(names) for _ in range(letters)))
        for name in names
    }


def random_tables(seed, rounds=2):
    """Pairs of a number of letters and a table, for 2 to 4 letters and 1 to 8 states."""
    chance = random.Random(seed)
    return [
        (letters, random_table(chance, letters, many))
        for letters in (2, 3, 4) for many in range(1, 9) for _ in range(rounds)
    ]


def random_texts(seed, letters, lengths=(0, 1, 2, 3, 5, 10, 50, 199, 200)):
    """A text by chance of each of these lengths."""
    chance = random.Random(seed)
    return ["".join(chance.choice("0123"[:letters]) for _ in range(length)) for length in lengths]


def model_step(table, state, text):
    """What the document says of a step: the first letter, and then the rest by the next state."""
    come = ""
    for sign in text:
        turn, nexts = table[state]
        come += str(turn[int(sign)])
        state = nexts[int(sign)]
    return come, state


def random_rows(chance, letters, many):
    """A tuple of rows by chance, as a move can be told by."""
    return tuple(
        (chance.choice(turns(letters)), tuple(chance.randrange(many) for _ in range(letters))) for _ in range(many)
    )


def random_moves(seed, letters, many=12, most=6):
    """Moves by chance, with at most so many rows."""
    chance = random.Random(seed)
    return [Move(letters, *random_rows(chance, letters, chance.randint(1, most))) for _ in range(many)]


def model_led(rows, text):
    """The text to which row 0 leads the text, as the document says of a step."""
    return model_step(rows, 0, text)[0]


def model_least(rows):
    """The least form of row 0: rows are apart if they turn apart or go on in rows that are."""
    apart = {(i, j) for i in range(len(rows)) for j in range(len(rows)) if rows[i][0] != rows[j][0]}
    grown = True
    while grown:
        more = {
            (i, j) for i in range(len(rows)) for j in range(len(rows))
            if (i, j) not in apart and any(pair in apart for pair in zip(rows[i][1], rows[j][1]))
        }
        grown = bool(more)
        apart |= more
    first = [min(j for j in range(len(rows)) if (i, j) not in apart) for i in range(len(rows))]
    order = [first[0]]
    for row in order:
        for behind in rows[row][1]:
            if first[behind] not in order:
                order.append(first[behind])
    return tuple((rows[row][0], tuple(order.index(first[behind]) for behind in rows[row][1])) for row in order)


def model_product(rows, other_rows):
    """Rows of the product of row 0 of both: a row for each pair of rows."""
    many = len(other_rows)
    told = []
    for turn, nexts in rows:
        for other_turn, other_nexts in other_rows:
            come = tuple(other_turn[letter] for letter in turn)
            told.append((come, tuple(nexts[k] * many + other_nexts[turn[k]] for k in range(len(turn)))))
    return tuple(told)


def ring_move(many, letters=2):
    """A move of so many rests: it turns the first letter, and each that stands so many further on."""
    stay = tuple(range(letters))
    swap = (1, 0) + stay[2:]
    return Move(letters, *[(swap if at == 0 else stay, ((at + 1) % many,) * letters) for at in range(many)])


def circle_move(many, letters=2):
    """A quiet move: a circle of so many rows by the letter 0, the first of which turns the first two letters."""
    stay = tuple(range(letters))
    rows = [((1, 0) + stay[2:] if at == 0 else stay, ((at + 1) % many,) + (many,) * (letters - 1)) for at in range(many)]
    return Move(letters, *rows, (stay, (many,) * letters))


def quiet_machines(seed, many, sizes=(2, 3, 4, 5, 6), letters=(2, 3, 4)):
    """Quiet machines by chance, whose last state is idle."""
    chance = random.Random(seed)
    found = []
    while len(found) < many:
        count = chance.choice(letters)
        size = chance.choice(sizes)
        names = sorted(chance.sample("abcdefghijk", size))
        chance.shuffle(names)
        still = names[-1]
        table = {still: (tuple(range(count)), (still,) * count)}
        for at, name in enumerate(names[:-1]):
            turn = list(range(count))
            if chance.random() < 0.75:
                chance.shuffle(turn)
            # By one letter to any state, by the others to later ones: so loops are rare and single.
            nexts = [still if chance.random() < 0.6 else chance.choice(names[at + 1:]) for _ in range(count)]
            if chance.random() < 0.7:
                nexts[chance.randrange(count)] = chance.choice(names[:-1])
            table[name] = (tuple(turn), tuple(nexts))
        machine = Machine(count, table)
        if is_quiet(machine):
            found.append(machine)
    return found


def model_table(machine, word):
    """The least form of the move of a word, however great it is: a product of one step after the other."""
    rows = ((tuple(range(machine.letters)), (0,) * machine.letters),)
    for state, number in word:
        step = move_of(machine, state) if number > 0 else ~move_of(machine, state)
        for _ in range(abs(number)):
            rows = least_rows(product_rows(rows, step.rows), 10 ** 9)
    return rows


def wide_word(seed, many, states="aab"):
    """A word of so many steps of the wide machine, by chance."""
    chance = random.Random(seed)
    return tuple((chance.choice(states), chance.choice((1, 1, -1))) for _ in range(many))


def rest_forms(rows):
    """For each row of a least form the least form of its own move."""
    return [rows_from(rows, place) for place in range(len(rows))]


def model_settled(rows, forms):
    """The least length such that the rests of a least form behind all texts of it are among these forms."""
    inside = [form in forms for form in rest_forms(rows)]
    places, length = {0}, 0
    while not all(inside[place] for place in places):
        places = {behind for place in places for behind in rows[place][1]}
        length += 1
    return length


def stepping_move(many, one, two):
    """A move of 4 letters that goes on by so many rows behind 0 and 1, and exchanges 2 and 3 in the last of its rows."""
    stay, last = (0, 1, 2, 3), many - 1
    rows = [(stay, (min(at + one, last), min(at + two, last), many, many)) for at in range(last)]
    return Move(4, *rows, ((0, 1, 3, 2), (many,) * 4), (stay, (many,) * 4))


def stepping_ring(*sizes):
    """A move that exchanges 0 and 1, and 2 and 3, and whose ring-rests are products of stepping moves, and their rests."""
    steps = [(1, 2), (2, 1), (1, 3), (3, 1)]
    return joined_move((1, 0, 3, 2), *[stepping_move(size, *step) for size, step in zip(sizes, steps)])


def circling_move(one, other, ahead=0):
    """A move of two letters that goes round all lengths by lcm(one, other) round rests, with so many ahead of these."""
    still, later = one + other, one + other + 2
    rows = [((0, 1), ((at + 1) % one, later if at == 0 else still)) for at in range(one)]
    rows += [((1, 0), (later if at == 0 else still, one + (at + 1) % other)) for at in range(other)]
    rows += [((0, 1), (still, still)), ((1, 0), (still, still)), ((0, 1), (still + 1, still + 1))]
    move = Move(2, *rows) * Move(2, *rows_from(tuple(rows), one))
    for _ in range(ahead):
        move = put_ahead(move)
    return move


def put_ahead(move):
    """A move that turns the letters in one ring, and whose ring-rest behind 0 is this move."""
    letters = move.letters
    stay = Move(letters, (tuple(range(letters)), (0,) * letters))
    return joined_move((*range(1, letters), 0), move, *[stay] * (letters - 1))
