"""Machines that are known: counters, Gray's code, the towers of Hanoi and folded paper."""

from textmovers.base.letters import check_letters
from textmovers.machine.machines import Machine


def counter(letters):
    """The machine whose state a adds one to a number, its lowest digit first."""
    check_letters(letters)
    last = letters - 1
    adding = tuple([(letter + 1) % letters for letter in range(letters)])
    behind = tuple(["a" if letter == last else "e" for letter in range(letters)])
    return Machine(letters, {"a": (adding, behind), "e": idle_row(letters)})


def gray():
    """The machine whose states a and b by turns go through Gray's code."""
    states = {"a": ((1, 0), ("e", "e")), "b": ((0, 1), ("b", "a")), "e": idle_row(2)}
    return Machine(2, states)


def towers():
    """The machine whose states a, b and c move one disc between two pegs."""
    states = {
        "a": ((1, 0, 2), ("e", "e", "a")),
        "b": ((2, 1, 0), ("e", "b", "e")),
        "c": ((0, 2, 1), ("c", "e", "e")),
        "e": idle_row(3),
    }
    return Machine(3, states)


def folded():
    """The machine of two letters that folds paper by its state a."""
    states = {"a": ((1, 0), ("e", "b")), "b": ((0, 1), ("e", "a")), "e": idle_row(2)}
    return Machine(2, states)


def idle_row(letters):
    """The turn and the next states of an idle state e."""
    return tuple(range(letters)), ("e",) * letters
