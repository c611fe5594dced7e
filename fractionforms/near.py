"""What is near a fraction, and what is simple: records, neighbours, rows, the simplest between two."""

from fractionforms.ratio import Ratio, lesser


def continued_terms(ratio):
    """The whole parts, each of 1 over the rest before."""
    terms = []
    above = ratio.above
    below = ratio.below
    while below > 0:
        terms.append(above // below)
        rest = above % below
        above = below
        below = rest
    return terms


def beginnings(terms):
    """What each beginning of a continued fraction's terms comes to."""
    ratios = []
    before = Ratio(0, 1)
    last = Ratio(1, 0)
    for term in terms:
        # What two beginnings lead on to has nothing in common either.
        reached = Ratio(term * last.above + before.above, term * last.below + before.below)
        ratios.append(reached)
        before = last
        last = reached
    return ratios


def nearest_above(ratio, below):
    """The upper number of the nearest fraction over a given number, the lesser of two as near."""
    above = ratio.above * below // ratio.below
    rest = ratio.above * below - above * ratio.below
    if 2 * rest > ratio.below:
        return above + 1
    return above


def records_up_to(ratio, most):
    """Each fraction that is nearer than all with less below its stroke, up to a given number there."""
    records = [Ratio(nearest_above(ratio, 1), 1)]
    gap = gap_over(ratio, records[0])
    for below in range(2, most + 1):
        found = Ratio(nearest_above(ratio, below), below)
        found_gap = gap_over(ratio, found)
        # Only what's nearer counts, so the least below the stroke stays, and in lowest terms.
        if found_gap * records[-1].below < gap * below:
            records.append(found)
            gap = found_gap
    return records


def best_up_to(ratio, most):
    """The nearest fraction with at most a given number below its stroke."""
    return records_up_to(ratio, most)[-1]


def gap_over(ratio, other):
    """How far two fractions are apart, times what is below both."""
    return abs(other.above * ratio.below - ratio.above * other.below)


def neighbours(ratio, most):
    """The greatest lesser and the least greater fraction with at most a given number below the stroke."""
    less = Ratio((ratio.above - 1) // ratio.below, 1)
    more = Ratio(ratio.above // ratio.below + 1, 1)
    for below in range(2, most + 1):
        size = ratio.above * below
        found_less = Ratio((size - 1) // ratio.below, below)
        # Only what's nearer counts, so each stays in lowest terms.
        if lesser(less, found_less) == 1:
            less = found_less
        found_more = Ratio(size // ratio.below + 1, below)
        if lesser(found_more, more) == 1:
            more = found_more
    return [less, more]


def row_of(most):
    """All fractions from 0 to 1 with at most a given number below the stroke, in order."""
    row = [Ratio(0, 1), Ratio(1, most)]
    while row[-1].below > 1:
        before = row[-2]
        last = row[-1]
        # Of all that make neighbours with the last one, the next has the most below its stroke.
        times = (most + before.below) // last.below
        row.append(Ratio(times * last.above - before.above, times * last.below - before.below))
    return row


def rank_of(ratio, most):
    """How many fractions of a row aren't above a fraction."""
    return len([member for member in row_of(most) if lesser(ratio, member) != 1])


def simplest_between(low, high):
    """The fraction from low to high with the least below its stroke, of these the nearest to 0."""
    if low.above <= 0 and high.above >= 0:
        return Ratio(0, 1)
    if low.above > 0:
        return simplest_above_zero(low, high)
    mirrored = simplest_above_zero(Ratio(-high.above, high.below), Ratio(-low.above, low.below))
    return Ratio(-mirrored.above, mirrored.below)


def simplest_above_zero(low, high):
    """The same of two ends above 0."""
    terms = []
    least = least_whole(low)
    while least * high.below > high.above:
        # With no whole number between them, both have one whole part, and 1 over their rests goes on.
        whole = least - 1
        terms.append(whole)
        turned = Ratio(high.below, high.above - whole * high.below)
        high = Ratio(low.below, low.above - whole * low.below)
        low = turned
        least = least_whole(low)
    terms.append(least)
    return beginnings(terms)[-1]


def least_whole(ratio):
    """The least whole number that isn't below a fraction."""
    return -(-ratio.above // ratio.below)
