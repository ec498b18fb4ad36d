"""Sums over all texts of a length, which follow from those of one letter less.

The numbers of a row of counts stand in one great integer, one behind the other,
so that whole rows are added at once.
"""

# More than sixty products of two numbers below 4 have as their sum.
PLACE = 1024


def next_sums(rows, sums, letters):
    """The sums of all rests at the next length, without whole numbers of letters."""
    return tuple([sum([sums[behind] for behind in nexts]) % letters for _, nexts in rows])


def far_sum(rows, sums, length, letters):
    """The sum of the first row, so many lengths further on."""
    table = [counted(nexts, len(rows)) for _, nexts in rows]
    counts = [1] + [0] * (len(rows) - 1)
    while length > 0:
        joined = [joined_counts(row) for row in table]
        if length % 2 == 1:
            counts = led_counts(counts, joined, letters)
        length = length // 2
        if length > 0:
            table = [led_counts(row, joined, letters) for row in table]
    return sum([many * one for many, one in zip(counts, sums)]) % letters


def counted(places, many):
    """How often each of so many places stands among these."""
    counts = [0] * many
    for place in places:
        counts[place] += 1
    return counts


def joined_counts(counts):
    """The counts in one integer, the first one lowest."""
    joined = 0
    for count in counts[::-1]:
        joined = joined * PLACE + count
    return joined


def led_counts(counts, joined, letters):
    """The sum of the joined rows, each as often as it is counted, without whole numbers of letters."""
    total = sum([count * row for count, row in zip(counts, joined) if count > 0])
    told = []
    for _ in counts:
        told.append(total % PLACE % letters)
        total = total // PLACE
    return told
