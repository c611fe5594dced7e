"""The desk: answers a list of calls on eight places that hold a fraction each."""

from fractionforms.expansions import ends_in, lengths_of
from fractionforms.near import beginnings, best_up_to, continued_terms, neighbours, rank_of, records_up_to, row_of
from fractionforms.near import simplest_between
from fractionforms.numbering import number_of, ratio_numbered
from fractionforms.order import lesser_text
from fractionforms.parse import parsed, parsed_number
from fractionforms.parts import fewest_parts
from fractionforms.ratio import Ratio, difference, has_digits, lesser, mediant_of, product, quotient, raised, total
from fractionforms.ratio import whole_part
from fractionforms.refusals import DividedByZero, NoSuchPlace, NotBytes, NothingBetween, NotTheWrittenOne, OutOfRange
from fractionforms.refusals import Refusal, TooManyDigits
from fractionforms.worth import worth
from fractionforms.writing import is_written, written

PLACES = 8
PLAIN = 0
NO_BASE = 10
SMALL_ENOUGH = 300
SMALL_FOR_LISTS = 20

# The least and the greatest that a whole number of a call may be, by what it is.
RANGES = {
    "place": (0, 7),
    "form": (0, 8),
    "base": (2, 36),
    "n": (1, 500),
    "times": (0, 40),
    "row": (1, 40),
    "r": (0, 1000),
    "m": (0, 4),
    "h": (1, 60),
}


class Desk:
    """The eight places."""

    def __init__(self):
        self.places = [Ratio(0, 1) for place in range(PLACES)]

    def keep(self, place, ratio):
        """Keeps a fraction that is small enough, and answers its plain text."""
        self.places[place] = small(ratio)
        return [0] + plain_text(ratio)


def small(ratio):
    """The same fraction, if it is small enough."""
    if not has_digits(ratio, SMALL_ENOUGH):
        raise TooManyDigits()
    return ratio


def short(ratio):
    """The same fraction, if its numbers are short enough for a list of fractions."""
    if not has_digits(ratio, SMALL_FOR_LISTS):
        raise TooManyDigits()
    return ratio


def plain_text(ratio):
    return written(PLAIN, NO_BASE, ratio)


def whole_text(value):
    return plain_text(Ratio(value, 1))


def counted(ratios):
    """How many fractions; then for each how long its plain text is, and this."""
    answer = [len(ratios)]
    for ratio in ratios:
        text = plain_text(ratio)
        answer.append(len(text))
        answer.extend(text)
    return answer


def read(desk, numbers, texts):
    form = numbers[1]
    base = numbers[2]
    return desk.keep(numbers[0], worth(form, base, parsed(form, base, texts[0])))


def write(desk, numbers, texts):
    return [0] + written(numbers[1], numbers[2], desk.places[numbers[0]])


def convert(desk, numbers, texts):
    form = numbers[0]
    base = numbers[1]
    ratio = small(worth(form, base, parsed(form, base, texts[0])))
    return [0] + written(numbers[2], numbers[3], ratio)


def canonical(desk, numbers, texts):
    form = numbers[0]
    base = numbers[1]
    ratio = small(worth(form, base, parsed(form, base, texts[0])))
    return [1 if is_written(form, base, ratio, texts[0]) else 0]


def compare(desk, numbers, texts):
    return [lesser(desk.places[numbers[0]], desk.places[numbers[1]])]


def within(desk, numbers, texts):
    form = numbers[0]
    base = numbers[1]
    # Each refusal is looked for in both texts before the one behind it.
    terms = [parsed(form, base, text) for text in texts]
    ratios = [small(worth(form, base, found)) for found in terms]
    for ratio, text in zip(ratios, texts):
        if not is_written(form, base, ratio, text):
            raise NotTheWrittenOne()
    return [lesser_text(form, terms[0], terms[1])]


def add(desk, numbers, texts):
    return desk.keep(numbers[2], total(desk.places[numbers[0]], desk.places[numbers[1]]))


def sub(desk, numbers, texts):
    return desk.keep(numbers[2], difference(desk.places[numbers[0]], desk.places[numbers[1]]))


def mul(desk, numbers, texts):
    return desk.keep(numbers[2], product(desk.places[numbers[0]], desk.places[numbers[1]]))


def div(desk, numbers, texts):
    divisor = desk.places[numbers[1]]
    if divisor.above == 0:
        raise DividedByZero()
    return desk.keep(numbers[2], quotient(desk.places[numbers[0]], divisor))


def power(desk, numbers, texts):
    return desk.keep(numbers[2], raised(desk.places[numbers[0]], numbers[1]))


def convergents(desk, numbers, texts):
    return counted(beginnings(continued_terms(short(desk.places[numbers[0]]))))


def best(desk, numbers, texts):
    return desk.keep(numbers[2], best_up_to(desk.places[numbers[0]], numbers[1]))


def records(desk, numbers, texts):
    return counted(records_up_to(short(desk.places[numbers[0]]), numbers[1]))


def beside(desk, numbers, texts):
    return counted(neighbours(short(desk.places[numbers[0]]), numbers[1]))


def rank(desk, numbers, texts):
    return [rank_of(desk.places[numbers[0]], numbers[1])]


def ranked(desk, numbers, texts):
    row = row_of(numbers[0])
    if numbers[1] >= len(row):
        raise NoSuchPlace()
    return desk.keep(numbers[2], row[numbers[1]])


def simplest(desk, numbers, texts):
    low = desk.places[numbers[0]]
    high = desk.places[numbers[1]]
    if lesser(high, low) == 1:
        raise NothingBetween()
    return desk.keep(numbers[2], simplest_between(low, high))


def numbered(desk, numbers, texts):
    return desk.keep(numbers[0], ratio_numbered(parsed_number(texts[0])))


def number(desk, numbers, texts):
    return [0] + whole_text(number_of(desk.places[numbers[0]]))


def lengths(desk, numbers, texts):
    return lengths_of(desk.places[numbers[0]].below, numbers[1])


def ends(desk, numbers, texts):
    below = desk.places[numbers[0]].below
    limits = RANGES["base"]
    return [0] + [base for base in range(limits[0], limits[1] + 1) if ends_in(below, base)]


def fewest(desk, numbers, texts):
    parts = fewest_parts(desk.places[numbers[0]], numbers[1], numbers[2])
    return [len(parts)] + parts


def mediant(desk, numbers, texts):
    return desk.keep(numbers[2], mediant_of(desk.places[numbers[0]], desk.places[numbers[1]]))


def floor(desk, numbers, texts):
    return [0] + whole_text(whole_part(desk.places[numbers[0]]))


# Of each call: what its whole numbers are, how many texts it has, and what answers it.
CALLS = {
    0: (("place", "form", "base"), 1, read),
    1: (("place", "form", "base"), 0, write),
    2: (("form", "base", "form", "base"), 1, convert),
    3: (("form", "base"), 1, canonical),
    4: (("place", "place"), 0, compare),
    5: (("form", "base"), 2, within),
    6: (("place", "place", "place"), 0, add),
    7: (("place", "place", "place"), 0, sub),
    8: (("place", "place", "place"), 0, mul),
    9: (("place", "place", "place"), 0, div),
    10: (("place", "times", "place"), 0, power),
    11: (("place",), 0, convergents),
    12: (("place", "n", "place"), 0, best),
    13: (("place", "n"), 0, records),
    14: (("place", "n"), 0, beside),
    15: (("place", "row"), 0, rank),
    16: (("row", "r", "place"), 0, ranked),
    17: (("place", "place", "place"), 0, simplest),
    18: (("place",), 1, numbered),
    19: (("place",), 0, number),
    20: (("place", "base"), 0, lengths),
    21: (("place",), 0, ends),
    22: (("place", "m", "h"), 0, fewest),
    23: (("place", "place", "place"), 0, mediant),
    24: (("place",), 0, floor),
}


def check_numbers(names, numbers):
    """Every whole number must be in its range."""
    for name, value in zip(names, numbers):
        if not RANGES[name][0] <= value <= RANGES[name][1]:
            raise OutOfRange()


def check_texts(texts):
    """Every number of a text must be a byte."""
    for text in texts:
        for code in text:
            if not 0 <= code <= 255:
                raise NotBytes()


def cut_texts(calls, start, many):
    """So many texts that stand from a place on, each behind its length."""
    texts = []
    for turn in range(many):
        end = start + 1 + calls[start]
        texts.append(calls[start + 1:end])
        start = end
    return texts


def answered(desk, call, numbers, texts):
    """What one call answers: its refusal's number alone, where it is refused."""
    try:
        check_numbers(CALLS[call][0], numbers)
        check_texts(texts)
        return CALLS[call][2](desk, numbers, texts)
    except Refusal as refusal:
        return [refusal.answer]


def answers(calls):
    """For each call of a list how many numbers it answers, and these."""
    desk = Desk()
    told = []
    start = 0
    while start < len(calls):
        call = calls[start]
        behind = start + 1 + len(CALLS[call][0])
        numbers = calls[start + 1:behind]
        texts = cut_texts(calls, behind, CALLS[call][1])
        answer = answered(desk, call, numbers, texts)
        told.append(len(answer))
        told.extend(answer)
        start = behind + sum([1 + len(text) for text in texts])
    return told
