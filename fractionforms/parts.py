"""A fraction as the fewest different unit parts."""

from fractionforms.refusals import BelowZero, NoSuchParts


def fewest_parts(ratio, most, highest):
    """The lower numbers of the fewest unit parts that come to a fraction, rising."""
    if ratio.above < 0:
        raise BelowZero()
    for many in range(most + 1):
        found = first_parts(ratio.above, ratio.below, many, 1, highest)
        if found is not None:
            return found
    raise NoSuchParts()


def first_parts(above, below, many, least, highest):
    """The first list of just so many lower numbers, rising, from least to highest; None if there is none."""
    if many == 0 or above == 0:
        return [] if many == 0 and above == 0 else None
    # The greatest part is at most the whole, and at least its share of it.
    first = max(least, (below + above - 1) // above)
    last = min(highest, many * below // above)
    for part in range(first, last + 1):
        others = first_parts(above * part - below, below * part, many - 1, part + 1, highest)
        if others is not None:
            return [part] + others
    return None
