"""What is near a fraction: the terms that lead to it, and the best with small numbers below."""

from fractionforms.ratio import Ratio


def continued_terms(ratio):
    """The whole parts, each of 1 over the rest before."""
    terms = []
    above = ratio.above
    below = ratio.below
    while below > 0:
        terms.append(above // below)
        rest = above % below
        above = below
        below = rest
    return terms


def beginnings(terms):
    """What each beginning of a continued fraction's terms comes to."""
    ratios = []
    before = Ratio(0, 1)
    last = Ratio(1, 0)
    for term in terms:
        # What two beginnings lead on to has nothing in common either.
        reached = Ratio(term * last.above + before.above, term * last.below + before.below)
        ratios.append(reached)
        before = last
        last = reached
    return ratios


def nearest_above(ratio, below):
    """The upper number of the nearest fraction over a given number, the lesser of two as near."""
    above = ratio.above * below // ratio.below
    rest = ratio.above * below - above * ratio.below
    if 2 * rest > ratio.below:
        return above + 1
    return above


def best_up_to(ratio, most):
    """The nearest fraction with at most a given number below its stroke."""
    best = Ratio(nearest_above(ratio, 1), 1)
    gap = gap_over(ratio, best)
    for below in range(2, most + 1):
        found = Ratio(nearest_above(ratio, below), below)
        found_gap = gap_over(ratio, found)
        # Only what's nearer counts, so the least below the stroke stays, and in lowest terms.
        if found_gap * best.below < gap * found.below:
            best = found
            gap = found_gap
    return best


def gap_over(ratio, other):
    """How far two fractions are apart, times what is below both."""
    return abs(other.above * ratio.below - ratio.above * other.below)
