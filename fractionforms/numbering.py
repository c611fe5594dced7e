"""The numbering of all fractions above 0, to a fraction and back."""

from fractionforms.digits import folded, unfolded
from fractionforms.ratio import Ratio
from fractionforms.refusals import NotAboveZero, TooGreatANumber

MOST_DIGITS = 901


def ratio_numbered(number):
    """The fraction of a number; each digit to the base 2 behind the first is one step on from 1."""
    above = 1
    below = 1
    for digit in unfolded(number, 2)[1:]:
        if digit == 1:
            above = above + below
        else:
            below = below + above
    return Ratio(above, below)


def number_of(ratio):
    """The number of a fraction; one goes back to 1, and each step tells the last digit ahead of those told."""
    if ratio.above <= 0:
        raise NotAboveZero()
    above = ratio.above
    below = ratio.below
    digits = []
    while above != below:
        # The digit of 1 itself is still to come.
        if len(digits) + 1 == MOST_DIGITS:
            raise TooGreatANumber()
        if above > below:
            above = above - below
            digits.append(1)
        else:
            below = below - above
            digits.append(0)
    digits.append(1)
    digits.reverse()
    return folded(digits, 2)
