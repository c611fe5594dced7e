"""Going through a text's bytes from the left."""

from fractionforms.digits import folded
from fractionforms.refusals import Fault

MOST_DIGITS = 300


def digit_of(code):
    """What a byte counts as a digit; 36, which no base has, if it is none."""
    if ord("0") <= code <= ord("9"):
        return code - ord("0")
    if ord("a") <= code <= ord("z"):
        return code - ord("a") + 10
    return 36


class Reader:
    """A text's bytes, and how many of them are read."""

    def __init__(self, codes):
        self.codes = codes
        self.place = 0

    def is_done(self):
        return self.place == len(self.codes)

    def sees(self, sign):
        """Whether a sign stands here."""
        return not self.is_done() and self.codes[self.place] == ord(sign)

    def takes(self, sign):
        """Goes behind a sign if it stands here, and tells whether it did."""
        if not self.sees(sign):
            return False
        self.place += 1
        return True

    def needs(self, sign):
        """Goes behind a sign that must stand here."""
        if not self.takes(sign):
            raise Fault(self.place)

    def ends(self):
        """Nothing may stand here."""
        if not self.is_done():
            raise Fault(self.place)

    def row(self, base):
        """The longest row of a base's digits here."""
        digits = []
        end = self.place
        while end < len(self.codes) and digit_of(self.codes[end]) < base:
            digits.append(digit_of(self.codes[end]))
            end += 1
        if not 1 <= len(digits) <= MOST_DIGITS:
            raise Fault(self.place)
        self.place = end
        return digits

    def front_row(self, base):
        """Such a row with 0 in front only alone."""
        start = self.place
        digits = self.row(base)
        if len(digits) > 1 and digits[0] == 0:
            raise Fault(start)
        return digits

    def number(self, least):
        """A number of at least what is told."""
        start = self.place
        found = folded(self.front_row(10), 10)
        if found < least:
            raise Fault(start)
        return found

    def whole_number(self):
        if self.takes("-"):
            return -self.number(1)
        return self.number(0)

    def whole_and_list(self, sign, least):
        """A whole number, and behind a sign, if it stands here, numbers with commas between."""
        terms = [self.whole_number()]
        if self.takes(sign):
            terms.append(self.number(least))
            while self.takes(","):
                terms.append(self.number(least))
        return terms
