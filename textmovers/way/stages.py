"""Ends and what leads from one to another, length by length.

A stage has some points, each a text of one length: the ends first, in their order, and
then the beginnings of those texts between which ways are asked for. A point is told by
its code: the place of the point that it is without its last letter, times the letters,
and this letter.
"""

from textmovers.errors import TooMany
from textmovers.level.hanging import busy_rests, busy_states
from textmovers.way.lines import joined_lines, least_costs, least_way, lines_between

MAX_ENDS = 24


class Stage:
    """The points of one length, and the steps that lead from one to another."""

    def __init__(self, codes, many, marks, busy, quiet):
        # The codes of the points, how many of them are ends, and the places of those between which ways are asked for.
        self.codes = codes
        self.many = many
        self.marks = marks
        # The states of steps whose rests are not idle, by the places of two ends, and the rest.
        self.busy = busy
        # The states of steps whose rests are idle, but not those of one letter less, by two codes.
        self.quiet = quiet


def first_stage(machine, rests):
    """The stage of the empty text."""
    busy = {(0, 0, rest): state for rest, state in enumerate(busy_states(machine))}
    return Stage([0], 1 if rests else 0, [0, 0], busy, {})


def longer_stage(stage, rests, letters, signs):
    """The stage of one letter more, if the texts between which ways are asked for go on with these letters."""
    quiet = {}
    found = {}
    for one, other, rest in stage.busy:
        state = stage.busy[(one, other, rest)]
        turn, nexts = rests[rest]
        for letter, behind in enumerate(nexts):
            pair = (one * letters + letter, other * letters + turn[letter])
            if behind is None:
                quiet.setdefault(pair, state)
            else:
                found.setdefault((*pair, behind), state)
    ends = {end: True for one, other, _ in found for end in (one, other)}
    codes = sorted([int(code) for code in ends])
    many = len(codes)
    if many > MAX_ENDS:
        raise TooMany(MAX_ENDS)
    asked = [mark * letters + int(sign) for mark, sign in zip(stage.marks, signs)]
    for code in asked:
        if code not in codes:
            codes.append(code)
    places = {code: place for place, code in enumerate(codes)}
    busy = {(places[one], places[other], rest): found[(one, other, rest)] for one, other, rest in found}
    return Stage(codes, many, [places[code] for code in asked], busy, quiet)


def stages_along(machine, pairs):
    """The stages of all lengths, if the texts between which ways are asked for have these letters, pair by pair."""
    rests = busy_rests(machine)
    stages = [first_stage(machine, rests)]
    for signs in pairs:
        stages.append(longer_stage(stages[-1], rests, machine.letters, signs))
    return stages


def end_texts(stages, letters):
    """The ends of the last stage."""
    told = [""]
    for stage in stages[1:]:
        told = [told[code // letters] + str(code % letters) for code in stage.codes]
    return told[:stages[-1].many]


def stage_lines(stages, letters):
    """For each stage lines between its points, whose least ways cost what those by steps with idle rests do."""
    lines = [[{}]]
    for stage in stages[1:]:
        lines.append(lines_between(joined_lines(lines[-1], stage.quiet, letters), stage.codes))
    return lines


def last_lines(stage, lines):
    """The lines between the points of a stage by all steps."""
    return joined_lines(lines, [(one, other) for one, other, _ in stage.busy], 1)


def way_steps(stages, lines, letters):
    """The steps of a least way between the texts that are asked for, which there is."""
    last = stages[-1]
    between = {(one, other): last.busy[(one, other, rest)] for one, other, rest in last.busy}
    way = least_way(last_lines(last, lines[-1]), last.marks[0], last.marks[1])
    steps = []
    waiting = way_parts(way, between, len(stages) - 1, 1)[::-1]
    while waiting:
        step, at, one, other = waiting.pop()
        if step is not None:
            steps.append(step)
        elif at > 0:
            waiting.extend(ahead_parts(stages, lines, letters, at, (one, other))[::-1])
    return steps


def ahead_parts(stages, lines, letters, at, ends):
    """The parts of a least way between two points of a stage by steps whose rests are idle."""
    one, other = [stages[at].codes[end] for end in ends]
    # Most letters stay as they are, and the way is that of one letter less.
    if one % letters == other % letters:
        cost = least_costs(lines[at], ends[0])[ends[1]]
        if least_costs(lines[at - 1], one // letters).get(other // letters) == cost:
            return [(None, at - 1, one // letters, other // letters)]
    joined = joined_lines(lines[at - 1], stages[at].quiet, letters)
    return way_parts(least_way(joined, one, other), stages[at].quiet, at - 1, letters)


def way_parts(way, between, at, letters):
    """For each line of a way its step, or the points of a stage, by their places, between which it is a least way."""
    parts = []
    for one, other in zip(way, way[1:]):
        if (one, other) in between:
            parts.append(((between[(one, other)], 1), at, one, other))
        elif (other, one) in between:
            parts.append(((between[(other, one)], -1), at, one, other))
        else:
            parts.append((None, at, one // letters, other // letters))
    return parts
