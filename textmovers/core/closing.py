"""Making the core of a quiet machine.

Whatever is left behind longer and longer texts stands behind circles. So the core
is what lasts of the steps, and then of its products with steps, until nothing new
comes.
"""

from textmovers.base.letters import MAX_RESTS
from textmovers.base.rows import undone_row
from textmovers.core.forest import Forest
from textmovers.errors import TooMany


def grown_forest(machine):
    """The forest of a quiet machine, the number of each step in it, and for each number in it the steps of a word."""
    forest = Forest(machine.letters)
    names = [(state, sign) for state in machine for sign in (1, -1)]
    numbers = forest.planted(step_rows(machine))
    steps = {step: number for step, number in zip(names, numbers)}
    ways = {0: []}
    backs = {}
    for state, sign in names:
        ways.setdefault(steps[(state, sign)], [(state, sign)])
        backs[steps[(state, sign)]] = steps[(state, -sign)]
    firsts = {number: ways[number][0] for number in ways if number != 0}
    for single in firsts:
        forest.learn((single, backs[single]), 0)
    core = {}
    news = [number for number in ways if forest.is_circled(number)]
    while news:
        for number in news:
            core[number] = True
        if len(core) > MAX_RESTS:
            raise TooMany(MAX_RESTS)
        pairs = [(number, step) for number in news if number != 0 for step in firsts]
        products = forest.all_products(pairs)
        for number, step in pairs:
            product = products[(number, step)]
            # What a step leads to is led back by the undone one.
            forest.learn((product, backs[step]), number)
            if product not in ways:
                ways[product] = [*ways[number], firsts[step]]
        news = [number for number in ways if forest.is_circled(number) and number not in core]
    forest.close(list(core))
    return forest, steps, ways


def step_rows(machine):
    """The rows of all steps: for each state, by the names, one of it and one of the undone one."""
    places = {state: 2 * at for at, state in enumerate(machine)}
    rows = []
    for state in machine:
        turn = machine.turn(state)
        nexts = tuple([places[behind] for behind in machine.nexts(state)])
        rows.append((turn, nexts))
        rows.append(undone_row(turn, [place + 1 for place in nexts]))
    return rows
