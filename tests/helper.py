"""What the tests share: asking the desk, and a second, slow reckoning straight from the document.

The slow reckoning uses Python's own fractions and none of the program's code.
"""

import itertools
import math
import random
from fractions import Fraction

from fractionforms.desk import answers

LEAST = -9223372036854775808
GREATEST = 9223372036854775807
FORMS = range(9)
MOST_CALLS = 400
MOST_NUMBERS = 16000
MOST_LISTS = 40
DIGITS = "0123456789abcdefghijklmnopqrstuvwxyz"


def codes(text):
    """The numbers of a text; a list of numbers stays as it is."""
    return [ord(sign) for sign in text] if isinstance(text, str) else list(text)


def row(text):
    return [len(text)] + codes(text)


def read(k, form, base, text):
    return [0, k, form, base] + row(text)


def write(k, form, base):
    return [1, k, form, base]


def convert(form, base, form2, base2, text):
    return [2, form, base, form2, base2] + row(text)


def canonical(form, base, text):
    return [3, form, base] + row(text)


def compare(i, j):
    return [4, i, j]


def within(form, base, text, second):
    return [5, form, base] + row(text) + row(second)


def add(i, j, k):
    return [6, i, j, k]


def sub(i, j, k):
    return [7, i, j, k]


def mul(i, j, k):
    return [8, i, j, k]


def div(i, j, k):
    return [9, i, j, k]


def power(i, n, k):
    return [10, i, n, k]


def convergents(i):
    return [11, i]


def best(i, n, k):
    return [12, i, n, k]


def records(i, n):
    return [13, i, n]


def beside(i, n):
    return [14, i, n]


def rank(i, n):
    return [15, i, n]


def ranked(n, r, k):
    return [16, n, r, k]


def simplest(i, j, k):
    return [17, i, j, k]


def numbered(k, text):
    return [18, k] + row(text)


def number(i):
    return [19, i]


def lengths(i, base):
    return [20, i, base]


def ends(i):
    return [21, i]


def fewest(i, m, h):
    return [22, i, m, h]


def mediant(i, j, k):
    return [23, i, j, k]


def floor(i):
    return [24, i]


def keeping(*values):
    """Calls that keep fractions in the places from 0 on."""
    return [read(place, 0, 10, plain(value)) for place, value in enumerate(values)]


def listed(values):
    """The answer that tells fractions one behind another, each with its length."""
    answer = [len(values)]
    for value in values:
        answer += row(plain(value))
    return answer


def split(told):
    """The answers one by one, from the list that the desk gives back."""
    parts = []
    place = 0
    while place < len(told):
        end = place + 1 + told[place]
        parts.append(told[place + 1:end])
        place = end
    assert place == len(told)
    return parts


def ask(*calls):
    """The answers to calls that are handed in as one list."""
    parts = split(answers(list(itertools.chain.from_iterable(calls))))
    assert len(parts) == len(calls)
    return parts


def ask_groups(groups):
    """The answers to groups of calls, as many groups in one list as may be handed in."""
    told = []
    waiting = []
    for group in groups:
        calls = [call for one in waiting for call in one] + group
        lists = sum(call[0] in (11, 13) for call in calls)
        if len(calls) > MOST_CALLS or sum(map(len, calls)) > MOST_NUMBERS or lists > MOST_LISTS:
            told.extend(ask_together(waiting))
            waiting = []
        waiting.append(group)
    told.extend(ask_together(waiting))
    return told


def ask_together(groups):
    if not groups:
        return []
    flat = iter(ask(*[call for group in groups for call in group]))
    return [[next(flat) for call in group] for group in groups]


def ask_each(calls):
    """The answers to calls that don't need one another."""
    return [group[0] for group in ask_groups([[call] for call in calls])]


def done(text):
    """The answer of a call that keeps or writes."""
    return [0] + codes(text)


def plain(value):
    value = Fraction(value)
    if value.denominator == 1:
        return str(value.numerator)
    return f"{value.numerator}/{value.denominator}"


def is_small(value):
    return len(str(abs(value.numerator))) <= 300 and len(str(value.denominator)) <= 300


# Where a text's fault is: what may stand in each state, and in which states the text may end.
WHOLE = {"start": [("-", "below"), (("number", 0), "whole")], "below": [(("number", 1), "whole")]}


def listing(sign, least):
    grammar = dict(WHOLE)
    grammar["whole"] = [(sign, "item")]
    grammar["item"] = [(("number", least), "behind")]
    grammar["behind"] = [(",", "item")]
    return grammar, ("whole", "behind")


GRAMMARS = {
    0: (dict(WHOLE, whole=[("/", "lower")], lower=[(("number", 1), "end")], end=[]), ("whole", "end")),
    1: (
        {
            "start": [("-", "size"), (("front", 0), "front")],
            "size": [(("front", 0), "front")],
            "front": [(".", "point")],
            "point": [(("row", 0), "before"), ("(", "open")],
            "before": [("(", "open")],
            "open": [(("row", 0), "inside")],
            "inside": [(")", "end")],
            "end": [],
        },
        ("front", "before", "end"),
    ),
    2: listing(";", 1),
    3: (
        {
            "start": [("-", "size"), (("number", 0), "first")],
            "size": [(("number", 0), "first")],
            "first": [(" ", "above"), ("/", "quotient")],
            "above": [(("number", 1), "stroke")],
            "stroke": [("/", "lower")],
            "lower": [(("number", 2), "end")],
            "quotient": [(("number", 1), "end")],
            "end": [],
        },
        ("first", "end"),
    ),
    4: (
        dict(WHOLE, whole=[("+", "one")], one=[("1", "stroke")], stroke=[("/", "lower")],
             lower=[(("number", 2), "whole")]),
        ("whole",),
    ),
    5: (
        {
            "start": [("o", "end"), ("r", "right"), ("l", "left")],
            "right": [(("number", 1), "went right")],
            "left": [(("number", 1), "went left")],
            "went right": [("l", "left")],
            "went left": [("r", "right")],
            "end": [],
        },
        ("end", "went right", "went left"),
    ),
    6: listing(":", 0),
    7: listing(":", 1),
    8: listing(":", 1),
}


def taken(kind, least, signs, text, place):
    """Where the row of digits at a place ends, or None if it may not stand there."""
    end = place
    while end < len(text) and text[end] in signs:
        end += 1
    found = text[place:end]
    if not 1 <= len(found) <= 300:
        return None
    if kind != "row" and len(found) > 1 and found[0] == "0":
        return None
    if kind == "number" and int(found) < least:
        return None
    return end


def fault_of(form, base, text):
    """The place of a text's fault, or None if it has none."""
    grammar, finals = GRAMMARS[form]
    state = "start"
    place = 0
    while place < len(text):
        for token, following in grammar[state]:
            if token == text[place]:
                place += 1
                state = following
                break
            if isinstance(token, tuple):
                signs = DIGITS[:10] if token[0] == "number" else DIGITS[:base]
                end = taken(token[0], token[1], signs, text, place)
                if end is not None:
                    place = end
                    state = following
                    break
        else:
            return place
    return None if state in finals else place


def whole_and_rest(text, sign):
    whole, _, rest = text.partition(sign)
    return Fraction(int(whole)), [int(part) for part in rest.split(",") if part]


def signed(text):
    return (-1, text[1:]) if text.startswith("-") else (1, text)


def value_expansion(text, base):
    sign, text = signed(text)
    front, _, behind = text.partition(".")
    before, _, inside = behind.rstrip(")").partition("(")
    value = Fraction(int(front, base))
    if before:
        value += Fraction(int(before, base), base ** len(before))
    if inside:
        value += Fraction(int(inside, base), (base ** len(inside) - 1) * base ** len(before))
    return sign * value


def value_continued(text, base):
    value, others = whole_and_rest(text, ";")
    if not others:
        return value
    behind = Fraction(others[-1])
    for term in reversed(others[:-1]):
        behind = term + 1 / behind
    return value + 1 / behind


def value_mixed(text, base):
    sign, text = signed(text)
    whole, blank, part = text.partition(" ")
    return sign * sum(map(Fraction, [whole, part] if blank else [whole]))


def value_unit_parts(text, base):
    whole, *parts = text.split("+1/")
    return Fraction(int(whole)) + sum(Fraction(1, int(part)) for part in parts)


def value_road(text, base):
    """One step after another, so for short roads only."""
    left, right = (0, 1), (1, 0)
    for letter, steps in [] if text == "o" else zip(*[iter(road_steps(text))] * 2):
        for _ in range(int(steps)):
            here = (left[0] + right[0], left[1] + right[1])
            left, right = (here, right) if letter == "r" else (left, here)
    return Fraction(left[0] + right[0], left[1] + right[1])


def road_steps(text):
    return text.replace("r", " r ").replace("l", " l ").split()


def value_factorial(text, base):
    value, others = whole_and_rest(text, ":")
    return value + sum(Fraction(term, math.factorial(place + 2)) for place, term in enumerate(others))


def value_products(text, sign):
    value, others = whole_and_rest(text, ":")
    for place in range(len(others)):
        value += Fraction(sign ** place, math.prod(others[:place + 1]))
    return value


VALUES = (
    lambda text, base: Fraction(text),
    value_expansion,
    value_continued,
    value_mixed,
    value_unit_parts,
    value_road,
    value_factorial,
    lambda text, base: value_products(text, 1),
    lambda text, base: value_products(text, -1),
)


def value_of(form, base, text):
    return VALUES[form](text, base)


def in_base(number, base, length):
    signs = ""
    while number or len(signs) < length:
        number, digit = divmod(number, base)
        signs = DIGITS[digit] + signs
    return signs


def text_expansion(value, base):
    """The least rows that do, found by trying."""
    size = abs(value)
    whole, rest = divmod(size, 1)
    text = "-" * (value < 0) + in_base(whole, base, 1)
    once = 0
    while math.gcd(base, rest.denominator // math.gcd(rest.denominator, base ** once)) > 1:
        once += 1
    shifted, rest = divmod(rest * base ** once, 1)
    if once or rest:
        text += "." + (in_base(shifted, base, once) if once else "")
    if rest:
        many = 1
        while (base ** many - 1) % rest.denominator:
            many += 1
        text += "(" + in_base(int(rest * (base ** many - 1)), base, many) + ")"
    return text


def text_listing(terms, sign):
    return str(terms[0]) + (sign + ",".join(map(str, terms[1:])) if terms[1:] else "")


def text_continued(value, base):
    terms = [math.floor(value)]
    while value != terms[-1]:
        value = 1 / (value - terms[-1])
        terms.append(math.floor(value))
    return text_listing(terms, ";")


def text_mixed(value, base):
    whole, rest = divmod(abs(value), 1)
    parts = [str(whole)] * (whole > 0) + [str(rest)] * (rest > 0)
    return "-" * (value < 0) + (" ".join(parts) or "0")


def text_unit_parts(value, base):
    text = str(math.floor(value))
    rest = value - math.floor(value)
    while rest:
        lower = math.ceil(1 / rest)
        text += f"+1/{lower}"
        rest -= Fraction(1, lower)
    return text


def text_road(value, base):
    """Going right takes 1 off what's still ahead, going left takes 1 off what's 1 over it, until 1 is ahead."""
    text = ""
    while value != 1:
        if value > 1:
            steps = math.ceil(value) - 1
            value -= steps
            text += f"r{steps}"
        else:
            steps = math.ceil(1 / value) - 1
            value = 1 / (1 / value - steps)
            text += f"l{steps}"
    return text or "o"


def text_factorial(value, base):
    terms = [math.floor(value)]
    rest = value - terms[0]
    while rest:
        unit = Fraction(1, math.factorial(len(terms) + 1))
        terms.append(rest // unit)
        rest -= terms[-1] * unit
    return text_listing(terms, ":")


def text_engel(value, base):
    terms = [math.floor(value)]
    rest = value - terms[0]
    while rest:
        terms.append(math.ceil(1 / rest))
        rest = rest * terms[-1] - 1
    return text_listing(terms, ":")


def text_pierce(value, base):
    terms = [math.floor(value)]
    rest = value - terms[0]
    while rest:
        terms.append(math.floor(1 / rest))
        rest = 1 - rest * terms[-1]
    return text_listing(terms, ":")


TEXTS = (
    lambda value, base: plain(value),
    text_expansion,
    text_continued,
    text_mixed,
    text_unit_parts,
    text_road,
    text_factorial,
    text_engel,
    text_pierce,
)


def text_of(form, base, value):
    return TEXTS[form](Fraction(value), base)


def small_fractions(most, upper):
    """All fractions with at most so much below the stroke, from -upper to upper."""
    return sorted({Fraction(above, below) for below in range(1, most + 1)
                   for above in range(-upper * below, upper * below + 1)})


def chance(seed):
    """The same numbers each time."""
    return random.Random(seed)
