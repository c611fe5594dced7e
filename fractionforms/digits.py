"""Whole numbers from their digits, and the other way round."""


def folded(digits, base):
    """The number that digits of a base stand for."""
    number = 0
    for digit in digits:
        number = number * base + digit
    return number


def unfolded(number, base):
    """The digits of a number of at least 0, with no 0 in front but alone."""
    digits = [number % base]
    left = number // base
    while left > 0:
        digits.append(left % base)
        left = left // base
    digits.reverse()
    return digits


def multiplied(number, times):
    """A number so many times multiplied; 1 for no time."""
    product = 1
    for turn in range(times):
        product = product * number
    return product


def is_within(number, most):
    """Whether a number has at most so many decimal digits."""
    return abs(number) < multiplied(10, most)
