"""The level turns of words that have no counts of short patterns, for longer and longer ones.

Words without counts, modulo p, of patterns of less than m states are made of commutators
of such words for m - 1 with single states, of p times such words for m / p, and of such
words for m + 1. So are their level turns.
"""

from textmovers.base.letters import text_number
from textmovers.level.levels import turn_of_level
from textmovers.level.sieve import Sieve, commutator, powered_turn
from textmovers.move.moves import move_of
from textmovers.move.words import joined_word, undone_word


def countless_sizes(machine, length):
    """For each d from 0 on, how many level turns words make that have no counts of 1 to d states; the last one is 1."""
    made = countless_turns(machine, length)
    group = Sieve(machine.letters, length)
    sizes = []
    for turns in made[::-1]:
        for turn in turns:
            group.take_in(turn)
        sizes.append(group.size())
    return (*[size for size in sizes[::-1] if size > 1], 1)


def countless_turns(machine, length):
    """For each m from 1 on turns that, with those of greater ones, make all of words without counts below m."""
    letters = machine.letters
    firsts = [turn_of_level(move_of(machine, state), length) for state in machine]
    made = [closed_turns(letters, length, firsts, [])]
    # The depth is never more than the number of texts of one letter less.
    for size in range(2, deepest(letters, length) + 1):
        news = [commutator(one, other) for one in made[-1] for other in made[0]]
        if size % letters == 0:
            news.extend([powered_turn(turn, letters) for turn in made[size // letters - 1]])
        made.append(closed_turns(letters, length, news, made[0]))
    return made


def deepest(letters, length):
    """The greatest depth that a machine can have at a length."""
    most = 1
    for _ in range(length - 1):
        most = most * letters
    return most


def closed_turns(letters, length, turns, others):
    """Turns that make the least group with these turns, and with what comes of each if others are done around it."""
    group = Sieve(letters, length)
    waiting = list(turns)
    while waiting:
        turn = waiting.pop()
        if group.take_in(turn):
            waiting.extend([commutator(turn, other) for other in others])
    return group.turns()


def moving_word(machine, length, most):
    """A word without counts of 1 to so many states that moves a text of the length; None if there is none."""
    letters = machine.letters
    still = tuple(range(text_number(letters, length)))
    firsts = {}
    for state in machine:
        firsts.setdefault(turn_of_level(move_of(machine, state), length), ((state, 1),))
    made = [unlike_words(firsts, still)]
    for size in range(2, deepest(letters, length) + 1):
        news = {}
        for one in made[-1]:
            for other in made[0]:
                news.setdefault(commutator(one, other), commutator_word(machine, made[-1][one], made[0][other]))
        if size % letters == 0:
            ahead = made[size // letters - 1]
            for turn in ahead:
                news.setdefault(powered_turn(turn, letters), powered_word(machine, ahead[turn]))
        made.append(unlike_words(news, still))
    for words in made[most:]:
        for turn in words:
            return words[turn]
    return None


def unlike_words(words, still):
    """The words without the one that moves nothing."""
    return {turn: words[turn] for turn in words if turn != still}


def commutator_word(machine, one, other):
    """The word that undoes both words, and then does both."""
    back = joined_word(machine, undone_word(machine, one), undone_word(machine, other))
    return joined_word(machine, joined_word(machine, back, one), other)


def powered_word(machine, word):
    """The word done as many times as there are letters."""
    power = word
    for _ in range(machine.letters - 1):
        power = joined_word(machine, power, word)
    return power
