"""The forest of a quiet machine, and the moves of its words in it."""

from textmovers.core.closing import grown_forest
from textmovers.core.powers import powered_number
from textmovers.grow.busy import check_quiet
from textmovers.machine.machines import check_machine
from textmovers.move.words import steps_of


def forest_of(machine):
    """The forest of a machine, and the number of each step in it; refused if the machine is not quiet."""
    check_machine(machine)
    check_quiet(machine)
    forest, steps, _ = grown_forest(machine)
    return forest, steps


def way_numbers(forest, steps, words):
    """For each of the words the numbers of the moves of its beginnings, step by step, its own last."""
    ways = []
    for word in words:
        way = [0]
        for step in steps_of(word):
            way.append(forest.limited_product(way[-1], steps[step], None))
        ways.append(way)
    return ways


def word_number(forest, steps, word):
    """The number of the move of a word."""
    way = 0
    for state, number in word:
        step = steps[(state, 1 if number > 0 else -1)]
        way = forest.limited_product(way, powered_number(forest, step, abs(number)), None)
    return way


def step_depth(forest, steps):
    """The least length behind which all products of a move of the core and a step are in the core."""
    return forest.deepest(forest.inside(), list({steps[step]: True for step in steps}))
