"""From a text to its terms: the numbers that stand in it, form by form."""

from fractionforms.reader import Reader
from fractionforms.refusals import Fault, NotANumber


def parse_plain(reader, base):
    """The number above the stroke, and the one below."""
    above = reader.whole_number()
    if reader.takes("/"):
        return (above, reader.number(1))
    return (above, 1)


def parse_expansion(reader, base):
    """Whether a - stands there; the digits before the point, before the brackets, within them."""
    negative = reader.takes("-")
    front = reader.front_row(base)
    before = []
    repeating = []
    if reader.takes("."):
        if not reader.sees("("):
            before = reader.row(base)
        if reader.takes("("):
            repeating = reader.row(base)
            reader.needs(")")
    return (negative, front, before, repeating)


def parse_continued(reader, base):
    return reader.whole_and_list(";", 1)


def parse_mixed(reader, base):
    """Whether a - stands there; the whole number; what is above and below the stroke."""
    negative = reader.takes("-")
    first = reader.number(0)
    if reader.takes(" "):
        above = reader.number(1)
        reader.needs("/")
        return (negative, first, above, reader.number(2))
    if reader.takes("/"):
        return (negative, 0, first, reader.number(1))
    return (negative, first, 0, 1)


def parse_unit_parts(reader, base):
    """The whole number, and the lower numbers."""
    terms = [reader.whole_number()]
    while reader.takes("+"):
        reader.needs("1")
        reader.needs("/")
        terms.append(reader.number(2))
    return terms


def parse_road(reader, base):
    """How often one goes right, or below 0 how often left, step by step."""
    steps = []
    if reader.takes("o"):
        return steps
    right = reader.sees("r")
    while not steps or not reader.is_done():
        reader.needs("r" if right else "l")
        times = reader.number(1)
        steps.append(times if right else -times)
        right = not right
    return steps


def parse_factorial(reader, base):
    return reader.whole_and_list(":", 0)


def parse_products(reader, base):
    """Engel's and Pierce's texts look the same."""
    return reader.whole_and_list(":", 1)


PARSERS = (
    parse_plain,
    parse_expansion,
    parse_continued,
    parse_mixed,
    parse_unit_parts,
    parse_road,
    parse_factorial,
    parse_products,
    parse_products,
)


def parsed(form, base, codes):
    """The terms of a text of a form."""
    reader = Reader(codes)
    terms = PARSERS[form](reader, base)
    reader.ends()
    return terms


def parsed_number(codes):
    """The number of at least 1 that is the whole text."""
    reader = Reader(codes)
    try:
        found = reader.number(1)
        reader.ends()
    except Fault:
        raise NotANumber() from None
    return found
