"""How long the expansion of a fraction is, told from what is below its stroke alone."""

from fractionforms.ratio import common
from fractionforms.refusals import TooManyRepeat

MOST_REPEATING = 20000
# One stride less than so many, each so long, reach just beyond 20000.
STRIDE = 142
# A number of 300 digits has no prime in it more often than 1 doubled so many times.
DOUBLINGS = 10


def lengths_of(below, base):
    """How many digits behind the point come once, and how many repeat for ever."""
    once = 0
    shared = common(below, base)
    while shared > 1:
        # One more digit takes out of what's below all that it has in common with the base.
        below = below // shared
        once += 1
        shared = common(below, base)
    return [once, repeating(below, base)]


def repeating(below, base):
    """How many digits repeat, where what's below has nothing in common with the base."""
    if below == 1:
        return 0
    many = first_return(below, base)
    if many > MOST_REPEATING:
        raise TooManyRepeat()
    return many


def first_return(below, base):
    """After how many digits long division comes back to its rest of 1; more than may repeat, if it's not by then."""
    # One digit after another would take too long, so strides are taken until one ends on a rest of the first.
    seen = {}
    rest = 1
    for many in range(STRIDE):
        if many > 0 and rest == 1:
            return many
        seen[rest] = many
        rest = rest * base % below
    stride = rest
    for strides in range(1, STRIDE):
        if rest in seen:
            return strides * STRIDE - seen[rest]
        rest = rest * stride % below
    return MOST_REPEATING + 1


def ends_in(below, base):
    """Whether an expansion has no brackets: a power of the base is a multiple of what's below."""
    rest = base
    for turn in range(DOUBLINGS):
        rest = rest * rest % below
    return rest == 0
