"""Which of two written texts of a form is less, told from their terms.

Each answer is 1 if the first is less, 2 if the second is, else 0.
"""

from fractionforms.ratio import lesser_number


def turned(answer):
    """What is answered of the same two the other way round."""
    return (0, 2, 1)[answer]


def order_plain(first, second):
    return lesser_number(first[0] * second[1], second[0] * first[1])


def by_sign(first, second, sizes):
    """The one with a - is less; where both have it, the one of the greater size."""
    if first[0] and second[0]:
        return turned(sizes(first, second))
    if first[0]:
        return 1
    if second[0]:
        return 2
    return sizes(first, second)


def mixed_sizes(first, second):
    wholes = lesser_number(first[1], second[1])
    if wholes != 0:
        return wholes
    return order_plain(first[2:], second[2:])


def order_mixed(first, second):
    return by_sign(first, second, mixed_sizes)


def digit_at(terms, place):
    """The digit at a place behind the point, counted from 0."""
    before = terms[2]
    repeating = terms[3]
    if place < len(before):
        return before[place]
    if not repeating:
        return 0
    return repeating[(place - len(before)) % len(repeating)]


def expansion_sizes(first, second):
    """The longer row before the point is the greater one; else the first digit that's another tells."""
    lengths = lesser_number(len(first[1]), len(second[1]))
    if lengths != 0:
        return lengths
    fronts = order_rising(first[1], second[1])
    if fronts != 0:
        return fronts
    # Digits that are the same for a round of each behind both beginnings are so for ever.
    most = max(len(first[2]), len(second[2])) + len(first[3]) + len(second[3])
    for place in range(most):
        digits = lesser_number(digit_at(first, place), digit_at(second, place))
        if digits != 0:
            return digits
    return 0


def order_expansion(first, second):
    return by_sign(first, second, expansion_sizes)


def term_or_zero(terms, place):
    return terms[place] if place < len(terms) else 0


def order_rising(first, second):
    """The greater term tells the greater one; a term that's missing counts as 0."""
    for place in range(max(len(first), len(second))):
        terms = lesser_number(term_or_zero(first, place), term_or_zero(second, place))
        if terms != 0:
            return terms
    return 0


def parting(first, second):
    """How many terms two lists have in common at their beginning."""
    place = 0
    while place < len(first) and place < len(second) and first[place] == second[place]:
        place += 1
    return place


def lesser_or_endless(first, second, place):
    """Which term at a place is less, where one that's missing is above all."""
    if place == len(first) and place == len(second):
        return 0
    if place == len(first):
        return 2
    if place == len(second):
        return 1
    return lesser_number(first[place], second[place])


def order_falling(first, second):
    """Behind the whole number the greater term tells the lesser one."""
    place = parting(first, second)
    terms = lesser_or_endless(first, second, place)
    return terms if place == 0 else turned(terms)


def order_turning(first, second):
    """At every other place, from the second on, the greater term tells the lesser one."""
    place = parting(first, second)
    terms = lesser_or_endless(first, second, place)
    return terms if place % 2 == 0 else turned(terms)


ORDERS = (
    order_plain,
    order_expansion,
    order_turning,
    order_mixed,
    order_falling,
    order_rising,
    order_rising,
    order_falling,
    order_turning,
)


def lesser_text(form, first, second):
    """Which of two written texts, given by their terms, is less."""
    return ORDERS[form](first, second)
