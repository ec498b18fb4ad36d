"""The forest of a quiet machine, and the moves of its words in it."""

from textmovers.core.closing import core_table, step_rows
from textmovers.core.forest import Forest
from textmovers.grow.busy import check_quiet
from textmovers.machine.machines import check_machine
from textmovers.move.words import steps_of


def forest_of(machine):
    """The forest of a machine, which has its core alone; refused if the machine is not quiet."""
    check_machine(machine)
    check_quiet(machine)
    rows, _ = core_table(machine)
    return Forest(rows)


def step_numbers(machine, forest):
    """Each step of the machine with the number of its move."""
    steps = [(state, sign) for state in machine for sign in (1, -1)]
    return {step: number for step, number in zip(steps, forest.planted(step_rows(machine)))}


def way_numbers(machine, forest, words):
    """For each of the words the numbers of the moves of its beginnings, step by step, its own last."""
    numbers = step_numbers(machine, forest)
    ways = []
    for word in words:
        way = [0]
        for step in steps_of(word):
            way.append(forest.product(way[-1], numbers[step]))
        ways.append(way)
    return ways


def word_number(machine, forest, word):
    """The number of the move of a word."""
    return way_numbers(machine, forest, [word])[0][-1]


def step_depth(machine, forest):
    """The least length behind which all products of a move of the core and a step are in the core."""
    numbers = step_numbers(machine, forest)
    pairs = [(place, numbers[step]) for place in range(forest.size()) for step in numbers]
    return deepest_product(forest, pairs)


def deepest_product(forest, pairs):
    """The least length behind which the products of these pairs are in the core."""
    return max([int(forest.depth(forest.product(one, other))) for one, other in pairs])
