"""Promises about kept words: tuples of a sort, of names, and of what is promised of them."""

from textmovers.base.letters import is_text
from textmovers.base.whole import is_between
from textmovers.grow.busy import is_calm
from textmovers.ring.orders import is_idle_after
from textmovers.ring.rounds import goes_round

# For each sort how many names stand behind it, and what else does.
FORMS = {
    "alike": (2, "nothing"),
    "calm": (1, "nothing"),
    "idle": (1, "nothing"),
    "leads": (1, "texts"),
    "round": (1, "nothing"),
    "swap": (2, "nothing"),
    "times": (1, "number"),
}
MOST_TIMES = 10 ** 30


def is_promise(letters, names, value):
    """Whether the value is a promise about words that are kept under these names."""
    if not isinstance(value, tuple) or not value or not isinstance(value[0], str) or value[0] not in FORMS:
        return False
    many, form = FORMS[value[0]]
    told = value[1:many + 1]
    left = value[many + 1:]
    if len(told) < many or not all([isinstance(name, str) and name in names for name in told]):
        return False
    if form == "texts":
        return len(left) == 2 and all([is_text(letters, text) for text in left]) and len(left[0]) == len(left[1])
    if form == "number":
        return len(left) == 1 and is_between(left[0], 1, MOST_TIMES)
    return len(left) == 0


def named_by(promise):
    """The names of the words that a promise is about."""
    many, _ = FORMS[promise[0]]
    return promise[1:many + 1]


def asks_for_quiet(promise):
    """Whether the machine must be quiet for the promise."""
    return promise[0] in ("round", "times")


def is_true(promise, moves):
    """Whether the promise is true, if the words have these moves."""
    sort = promise[0]
    move = moves[promise[1]]
    if sort == "alike":
        return move == moves[promise[2]]
    if sort == "swap":
        other = moves[promise[2]]
        return move * other == other * move
    if sort == "calm":
        return is_calm(move)
    if sort == "idle":
        return move.is_idle
    if sort == "leads":
        return move(promise[2]) == promise[3]
    if sort == "round":
        return goes_round(move)
    return is_idle_after(move, promise[2])
