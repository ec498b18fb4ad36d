"""How often patterns of states stand scattered in words, undone states counted below 0."""


def pattern_count(word, pattern):
    """How often the pattern stands scattered in the word."""
    # For each beginning of the pattern how often it stands in the pairs so far.
    counts = [1] + [0] * len(pattern)
    for state, number in word:
        # Longer beginnings come first, since they are counted by shorter ones ahead of this pair.
        for end in range(len(pattern), 0, -1):
            at = end
            while at > 0 and pattern[at - 1] == state:
                at -= 1
                counts[end] += chosen_number(number, end - at) * counts[at]
    return counts[-1]


def chosen_number(number, many):
    """The count of so many times a state in so many steps by it."""
    chosen = 1
    for taken in range(many):
        chosen = chosen * (number - taken) // (taken + 1)
    return chosen


def short_counts(word, states, most, modulus):
    """The counts of all patterns of at most so many of the states: a list for each length, patterns in order."""
    counts = [[1]]
    for _ in range(most):
        counts.append([0] * (len(counts[-1]) * len(states)))
    places = {state: place for place, state in enumerate(states)}
    for state, number in word:
        chosen = [chosen_number(number, many) % modulus for many in range(most + 1)]
        add_pair(counts, places[state], chosen, len(states), modulus)
    return counts


def add_pair(counts, place, chosen, many, modulus):
    """Counts with one pair more; chosen tells how often its state stands in it so many times."""
    for length in range(len(counts) - 1, 0, -1):
        step = 1
        first = 0
        for taken in range(1, length + 1):
            # Patterns that end with the state so many times stand so far from one another.
            step = step * many
            first = first * many + place
            if chosen[taken] != 0:
                longer = counts[length][first::step]
                counts[length][first::step] = [
                    (one + chosen[taken] * other) % modulus for one, other in zip(longer, counts[length - taken])
                ]
