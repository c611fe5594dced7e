"""Fractions in lowest terms, and reckoning with them."""

from fractionforms.digits import is_within, multiplied


class Ratio:
    """A fraction: its numbers have nothing in common, and the one below is above 0."""

    def __init__(self, above, below):
        self.above = above
        self.below = below


def common(first, second):
    """The greatest number that goes into both; the second is above 0."""
    while second > 0:
        rest = first % second
        first = second
        second = rest
    return first


def lowest(above, below):
    """The fraction of two numbers, the second not 0."""
    if below < 0:
        above = -above
        below = -below
    shared = common(above, below)
    return Ratio(above // shared, below // shared)


def has_digits(ratio, most):
    """Whether both numbers have at most so many digits."""
    return is_within(ratio.above, most) and is_within(ratio.below, most)


def total(first, second):
    above = first.above * second.below + second.above * first.below
    return lowest(above, first.below * second.below)


def difference(first, second):
    return total(first, Ratio(-second.above, second.below))


def product(first, second):
    return lowest(first.above * second.above, first.below * second.below)


def quotient(first, second):
    """The first over the second, which isn't 0."""
    return lowest(first.above * second.below, first.below * second.above)


def mediant_of(first, second):
    """The upper numbers added, over the lower ones added."""
    return lowest(first.above + second.above, first.below + second.below)


def whole_part(ratio):
    """The greatest whole number that isn't above a fraction."""
    return ratio.above // ratio.below


def raised(ratio, times):
    """A fraction so many times multiplied."""
    # Powers of two numbers with nothing in common have nothing in common.
    return Ratio(multiplied(ratio.above, times), multiplied(ratio.below, times))


def lesser(first, second):
    """1 if the first is less, 2 if the second is, else 0."""
    return lesser_number(first.above * second.below, second.above * first.below)


def lesser_number(first, second):
    """1 if the first is less, 2 if the second is, else 0."""
    if first < second:
        return 1
    if first > second:
        return 2
    return 0
