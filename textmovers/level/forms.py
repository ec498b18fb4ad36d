"""Rotations behind a text as sums of counts of patterns, modulo the number of letters.

A form has a number for each text of one length, by its index, and a last one for the
rotation that has come together. What a form tells of a text behind one more state,
less what it tells ahead of it, is told by a form again; all forms that come so of
the last number alone are put together from a few, each with a place of its own.
"""

from textmovers.level.levels import level_texts, turn_of_level
from textmovers.move.moves import move_of


def pattern_parts(machine, length, index, most):
    """The pairs of a pattern and a number that make up the sum of a text, ascending; None if there are too many."""
    modulus = machine.letters
    changes = state_changes(machine, length)
    forms = independent_forms(changes, modulus)
    tables = [form_table(forms, change, modulus) for change in changes]
    parts = []
    waiting = [((), [forms[place][index] for place in forms])]
    while waiting:
        pattern, numbers = waiting.pop()
        # The first form is the one that tells the rotation alone.
        if numbers[0] != 0:
            parts.append((pattern, numbers[0]))
        if len(parts) > most:
            return None
        longer = [(state, led_numbers(table, numbers, modulus)) for state, table in zip(machine.states, tables)]
        waiting.extend([((*pattern, state), told) for state, told in longer[::-1] if told is not None])
    return parts


def state_changes(machine, length):
    """For each state, by the names, and for each text the index to which it leads it, and how it rotates behind it."""
    changes = []
    for state in machine:
        turn = turn_of_level(move_of(machine, state), length)
        behind = [machine.turn(machine.step(state, text)[1])[0] for text in level_texts(machine.letters, length)]
        changes.append((turn, behind))
    return changes


def changed_form(form, change, modulus):
    """What a form tells more behind a state than ahead of it."""
    turn, behind = change
    told = [(form[come] - form[at] + behind[at] * form[-1]) % modulus for at, come in enumerate(turn)]
    return [*told, 0]


def form_table(forms, change, modulus):
    """The same for each of the forms: how often each of them stands in it, which is what it has at their places."""
    told = [changed_form(forms[place], change, modulus) for place in forms]
    return [[form[place] for place in forms] for form in told]


def independent_forms(changes, modulus):
    """Forms of which all that come of the rotation alone are sums, by the places where just one of them has a 1."""
    many = len(changes[0][0])
    forms = {}
    waiting = [[0] * many + [1]]
    while waiting:
        form = less_forms(waiting.pop(), forms, modulus)
        places = [place for place, number in enumerate(form) if number != 0]
        if places:
            # Modulo 2 and 3 each number but 0 has itself as its inverse.
            form = [number * form[places[-1]] % modulus for number in form]
            for place in list(forms):
                forms[place] = less_form(forms[place], form, places[-1], modulus)
            forms[places[-1]] = form
            waiting.extend([changed_form(form, change, modulus) for change in changes])
    return forms


def less_forms(form, forms, modulus):
    """The form without the others' parts: with a 0 at each of their places."""
    for place in forms:
        form = less_form(form, forms[place], place, modulus)
    return form


def less_form(form, other, place, modulus):
    """The form less so many times the other one, that it has a 0 at this place."""
    times = form[place]
    return [(one - times * less) % modulus for one, less in zip(form, other)]


def led_numbers(table, numbers, modulus):
    """What the forms tell behind one state more, or None if this is nothing but 0, and so from there on."""
    told = [sum([many * number for many, number in zip(row, numbers)]) % modulus for row in table]
    return told if any([number != 0 for number in told]) else None
