"""The fewest steps between texts, and words of so few steps."""

from textmovers.base.letters import check_length, check_text
from textmovers.errors import InvalidText, TooMany
from textmovers.grow.busy import check_quiet
from textmovers.machine.machines import check_machine
from textmovers.move.words import is_word, led, step_number, word_of
from textmovers.way.lines import least_costs
from textmovers.way.stages import end_texts, last_lines, stage_lines, stages_along, way_steps

MAX_SHORT = 40


def ends(machine, length):
    """The ends of a length, ascending."""
    return tuple(end_texts(end_stages(machine, length), machine.letters))


def end_ways(machine, length):
    """For each pair of ends of a length the fewest steps from one to the other by quiet neighbours, or None."""
    stages = end_stages(machine, length)
    told = end_texts(stages, machine.letters)
    lines = stage_lines(stages, machine.letters)[-1]
    ways = {}
    for place, text in enumerate(told):
        costs = least_costs(lines, place)
        for at in range(place + 1, len(told)):
            ways[(text, told[at])] = costs.get(at)
    return ways


def fewest(machine, text, other_text):
    """The fewest steps that lead one text to the other one, or None if no word does."""
    stages = text_stages(machine, text, other_text)
    return fewest_by(stages, stage_lines(stages, machine.letters))


def short_word(machine, text, other_text):
    """A word of fewest steps that leads one text to the other one, or None if no word does."""
    stages = text_stages(machine, text, other_text)
    lines = stage_lines(stages, machine.letters)
    many = fewest_by(stages, lines)
    if many is None:
        return None
    if many > MAX_SHORT:
        raise TooMany(MAX_SHORT)
    return word_of(way_steps(stages, lines, machine.letters))


def is_short_word(machine, text, other_text, value):
    """Whether the value is a word of fewest steps that leads one text to the other one."""
    many = fewest(machine, text, other_text)
    if not is_word(machine, value) or step_number(value) != many:
        return False
    return led(machine, value, text) == other_text


def end_stages(machine, length):
    """The stages to a length; refuses what is no machine, no length, or no quiet machine."""
    check_machine(machine)
    check_length(length)
    check_quiet(machine)
    return stages_along(machine, [()] * length)


def text_stages(machine, text, other_text):
    """The stages to two texts; refuses what is no machine, no texts of one length, or no quiet machine."""
    check_machine(machine)
    check_text(machine.letters, text)
    check_text(machine.letters, other_text)
    if len(other_text) != len(text):
        raise InvalidText("texts of unlike lengths")
    check_quiet(machine)
    return stages_along(machine, list(zip(text, other_text)))


def fewest_by(stages, lines):
    """The fewest steps between the texts that the stages are asked for, or None."""
    last = stages[-1]
    return least_costs(last_lines(last, lines[-1]), last.marks[0]).get(last.marks[1])
