"""From a text's terms to its fraction, form by form."""

from fractionforms.digits import folded, multiplied
from fractionforms.ratio import Ratio, lowest


def plain_worth(terms, base):
    return lowest(terms[0], terms[1])


def expansion_worth(terms, base):
    """What comes before the brackets, and one round of them less that, over as many nines."""
    before = terms[1] + terms[2]
    repeating = terms[3]
    above = folded(before, base)
    below = multiplied(base, len(terms[2]))
    if repeating:
        above = folded(before + repeating, base) - above
        below = below * (multiplied(base, len(repeating)) - 1)
    return lowest(-above if terms[0] else above, below)


def continued_worth(terms, base):
    above = 1
    below = 0
    for term in reversed(terms):
        turned = term * above + below
        below = above
        above = turned
    return Ratio(above, below)


def mixed_worth(terms, base):
    above = terms[1] * terms[3] + terms[2]
    return lowest(-above if terms[0] else above, terms[3])


def unit_parts_worth(terms, base):
    above = terms[0]
    below = 1
    for part in terms[1:]:
        above = above * part + below
        below = below * part
    return lowest(above, below)


def road_worth(steps, base):
    """Going on to one side so often moves the other end so often by the end that stays."""
    left = Ratio(0, 1)
    right = Ratio(1, 0)
    for step in steps:
        if step > 0:
            left = Ratio(left.above + step * right.above, left.below + step * right.below)
        else:
            right = Ratio(right.above - step * left.above, right.below - step * left.below)
    return Ratio(left.above + right.above, left.below + right.below)


def factorial_worth(terms, base):
    """From the last number on: it and what comes behind it, over its place's number."""
    above = 0
    below = 1
    for place in range(len(terms) - 1, 0, -1):
        above = terms[place] * below + above
        below = below * (place + 1)
    return lowest(terms[0] * below + above, below)


def products_worth(terms, sign):
    """From the last number on: 1 and what comes behind it, added or taken off, over the number."""
    above = 0
    below = 1
    for place in range(len(terms) - 1, 0, -1):
        above = below + sign * above
        below = below * terms[place]
    return lowest(terms[0] * below + above, below)


def engel_worth(terms, base):
    return products_worth(terms, 1)


def pierce_worth(terms, base):
    return products_worth(terms, -1)


WORTHS = (
    plain_worth,
    expansion_worth,
    continued_worth,
    mixed_worth,
    unit_parts_worth,
    road_worth,
    factorial_worth,
    engel_worth,
    pierce_worth,
)


def worth(form, base, terms):
    """The fraction that the terms of a text come to."""
    return WORTHS[form](terms, base)
