"""From a fraction to the one text that is written of it, form by form."""

from fractionforms.digits import is_within, unfolded
from fractionforms.near import continued_terms
from fractionforms.refusals import NoText, NotAboveZero

MOST_BYTES = 2000
MOST_IN_ROW = 300
MOST_BELOW = 10000
SIGNS = "0123456789abcdefghijklmnopqrstuvwxyz"


def write_plain(ratio, base):
    if ratio.below == 1:
        return str(ratio.above)
    return str(ratio.above) + "/" + str(ratio.below)


def spelled(digits):
    """A row of digits, if it isn't too long to be read."""
    if len(digits) > MOST_IN_ROW:
        raise NoText()
    return "".join([SIGNS[digit] for digit in digits])


def minus(ratio):
    return "-" if ratio.above < 0 else ""


def write_expansion(ratio, base):
    size = abs(ratio.above)
    text = minus(ratio) + spelled(unfolded(size // ratio.below, base))
    rows = divided(size % ratio.below, ratio.below, base)
    if rows[0] or rows[1]:
        text = text + "." + spelled(rows[0])
    if rows[1]:
        text = text + "(" + spelled(rows[1]) + ")"
    return text


def divided(rest, below, base):
    """Long division of a rest: the digits that come once, and those that repeat for ever."""
    digits = []
    seen = {}
    while rest > 0 and rest not in seen:
        # Two rows that are short enough would be found by then.
        if len(digits) == 2 * MOST_IN_ROW:
            raise NoText()
        seen[rest] = len(digits)
        digits.append(rest * base // below)
        rest = rest * base % below
    once = seen[rest] if rest > 0 else len(digits)
    return (digits[:once], digits[once:])


def listed(terms, sign):
    """The first term, and the others, if there are any, behind a sign."""
    text = str(terms[0])
    if len(terms) == 1:
        return text
    return text + sign + ",".join([str(term) for term in terms[1:]])


def write_continued(ratio, base):
    return listed(continued_terms(ratio), ";")


def write_mixed(ratio, base):
    size = abs(ratio.above)
    whole = size // ratio.below
    rest = size % ratio.below
    text = minus(ratio)
    if whole > 0 or rest == 0:
        text = text + str(whole)
    if whole > 0 and rest > 0:
        text = text + " "
    if rest > 0:
        text = text + str(rest) + "/" + str(ratio.below)
    return text


def write_unit_parts(ratio, base):
    parts = [str(ratio.above // ratio.below)]
    above = ratio.above % ratio.below
    below = ratio.below
    while above > 0:
        part = (below + above - 1) // above
        if not is_within(part, MOST_IN_ROW):
            raise NoText()
        parts.append(str(part))
        above = above * part - below
        below = below * part
    return "+1/".join(parts)


def write_road(ratio, base):
    if ratio.above <= 0:
        raise NotAboveZero()
    terms = continued_terms(ratio)
    # One stands at 1 at the beginning, so the last term is one step too many.
    terms[-1] -= 1
    steps = []
    for place, term in enumerate(terms):
        if term > 0:
            letter = "r" if place % 2 == 0 else "l"
            steps.append(letter + str(term))
    return "".join(steps) if steps else "o"


def write_factorial(ratio, base):
    terms = [ratio.above // ratio.below]
    rest = ratio.above % ratio.below
    while rest > 0:
        if len(terms) > MOST_IN_ROW:
            raise NoText()
        rest = rest * (len(terms) + 1)
        terms.append(rest // ratio.below)
        rest = rest % ratio.below
    return listed(terms, ":")


def write_engel(ratio, base):
    if ratio.below > MOST_BELOW:
        raise NoText()
    terms = [ratio.above // ratio.below]
    rest = ratio.above % ratio.below
    while rest > 0:
        terms.append((ratio.below + rest - 1) // rest)
        rest = rest * terms[-1] - ratio.below
    return listed(terms, ":")


def write_pierce(ratio, base):
    if ratio.below > MOST_BELOW:
        raise NoText()
    terms = [ratio.above // ratio.below]
    rest = ratio.above % ratio.below
    while rest > 0:
        terms.append(ratio.below // rest)
        rest = ratio.below - rest * terms[-1]
    return listed(terms, ":")


WRITERS = (
    write_plain,
    write_expansion,
    write_continued,
    write_mixed,
    write_unit_parts,
    write_road,
    write_factorial,
    write_engel,
    write_pierce,
)


def written(form, base, ratio):
    """The bytes of a fraction's text in a form."""
    text = WRITERS[form](ratio, base)
    if len(text) > MOST_BYTES:
        raise NoText()
    return [ord(sign) for sign in text]


def is_written(form, base, ratio, codes):
    """Whether bytes are the text that is written of a fraction."""
    try:
        return written(form, base, ratio) == codes
    except NoText:
        return False
