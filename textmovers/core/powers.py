"""Great powers of moves in a forest, put together along the rings of single letters.

If the ring of a letter has M letters, n times a move have as their rest behind it the
whole ring of rests, done n // M times, and then as many more of them as are left over.
"""

# The products of all moves of a core of no more than so many are soon known.
MAX_MET = 16

# Powers to less are as soon told by doubling.
MIN_GREAT = 16


def powered_number(forest, once, number):
    """The number of so many times a move."""
    first = (once, number)
    if number < MIN_GREAT:
        return doubled_number(forest, first)
    known = {}
    begun = {}
    waiting = [first] if easy_power(first) is None else []
    while waiting:
        task = waiting[-1]
        if task not in begun:
            begun[task] = ring_parts(forest, task)
            waiting.extend(missing_tasks(known, begun[task]))
        else:
            waiting.pop()
            if task not in known:
                known[task] = joined_parts(forest, known, begun[task], task)
    return told_power(known, first)


def ring_parts(forest, task):
    """The turn of a power, and for each letter the power of its whole ring of rests, and the move that is left over."""
    one, many = task
    turn, nexts = forest.row(one)
    come = []
    parts = []
    for letter in range(len(turn)):
        ring = [letter]
        while turn[ring[-1]] != letter:
            ring.append(turn[ring[-1]])
        rounds, left = divmod(many, len(ring))
        come.append(ring[left])
        over = 0
        whole = 0
        for at, other in enumerate(ring):
            if at == left:
                over = whole
            whole = forest.limited_product(whole, nexts[other], None)
        parts.append(((whole, rounds), over))
    return tuple(come), parts


def missing_tasks(known, row):
    """The powers of which a row is made that are not known."""
    _, parts = row
    return [task for task, _ in parts if task not in known and easy_power(task) is None]


def joined_parts(forest, known, row, task):
    """The number of a power whose parts have been looked at."""
    if missing_tasks(known, row):
        # It is behind itself: so letters stay, and it is a move of the core or leads to one.
        return doubled_number(forest, task)
    turn, parts = row
    return forest.number_of(turn, tuple([
        forest.limited_product(told_power(known, part), over, None) for part, over in parts
    ]))


def easy_power(task):
    """The number of a power that need not be looked at, or None."""
    one, many = task
    if one == 0 or many == 0:
        return 0
    return one if many == 1 else None


def told_power(known, task):
    """The number of a power that is known, or need not be looked at."""
    return known[task] if task in known else easy_power(task)


def doubled_number(forest, task):
    """The number of a power, by doubling."""
    once, many = task
    power = 0
    while many > 0:
        if many % 2 == 1:
            power = forest.limited_product(power, once, None)
        many = many // 2
        if many > 0:
            once = forest.limited_product(once, once, None)
    return power


def check_squares(forest, once, number, most):
    """Refuses a power if one of those to 2, 4, 8 and so on up to it has more rows than most."""
    doublings = number.bit_length() - 1
    if has_few_rows(forest, once, doublings, most):
        return
    square = once
    for _ in range(doublings):
        square = forest.limited_product(square, square, most)
        forest.outside(square, most)


def has_few_rows(forest, once, doublings, most):
    """Whether it is seen that no power to 2, 4, 8 and so on, so many of them, has more rows than most.

    Along each ring of texts of one length a power has as its rests products that only
    change where the move is busy: so there are at most twice as many as busy texts, and
    the idle one. And each doubling settles later by no more than two moves of the core do.
    """
    if len(forest.inside()) > MAX_MET:
        return False
    meet = forest.deepest(forest.inside(), forest.inside())
    rows = 0
    counts = {once: 1}
    for _ in range(forest.depth(once) + doublings * meet):
        counts = next_counts(forest, counts)
        rows += 2 * sum(list(counts.values())) + 1
        if rows > most:
            return False
    return True


def next_counts(forest, counts):
    """How often each move that is not idle is a rest behind one letter more."""
    told = {}
    for number in counts:
        _, nexts = forest.row(number)
        for behind in nexts:
            if behind != 0:
                told[behind] = told.get(behind, 0) + counts[number]
    return told
