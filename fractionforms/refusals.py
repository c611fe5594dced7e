"""The refusals of calls, each with the number that is answered."""


class Refusal(Exception):
    """What every refusal is; desk answers its number alone."""

    def __init__(self, answer):
        self.answer = answer


class OutOfRange(Refusal):
    """A whole number of a call isn't in its range."""

    def __init__(self):
        Refusal.__init__(self, -3)


class NotBytes(Refusal):
    """A number of a text is no byte."""

    def __init__(self):
        Refusal.__init__(self, -1)


class Fault(Refusal):
    """A text is not of its form, from a place on."""

    def __init__(self, place):
        Refusal.__init__(self, -1000 - place)


class NotANumber(Refusal):
    """A text is no number of at least 1."""

    def __init__(self):
        Refusal.__init__(self, -4)


class DividedByZero(Refusal):
    """There is no quotient."""

    def __init__(self):
        Refusal.__init__(self, -5)


class NotAboveZero(Refusal):
    """Roads and numbers lead to fractions above 0 alone."""

    def __init__(self):
        Refusal.__init__(self, -6)


class BelowZero(Refusal):
    """Unit parts never come to less than 0 together."""

    def __init__(self):
        Refusal.__init__(self, -6)


class NotTheWrittenOne(Refusal):
    """A text is another than what is written of its fraction."""

    def __init__(self):
        Refusal.__init__(self, -7)


class NoSuchPlace(Refusal):
    """A row of fractions is too short for a place."""

    def __init__(self):
        Refusal.__init__(self, -7)


class NothingBetween(Refusal):
    """The end that should be the greater one is less."""

    def __init__(self):
        Refusal.__init__(self, -7)


class NoSuchParts(Refusal):
    """No list of unit parts comes to a fraction."""

    def __init__(self):
        Refusal.__init__(self, -7)


class TooManyDigits(Refusal):
    """A fraction's numbers are too long for what is asked."""

    def __init__(self):
        Refusal.__init__(self, -8)


class NoText(Refusal):
    """A fraction has no text in a form."""

    def __init__(self):
        Refusal.__init__(self, -8)


class TooGreatANumber(Refusal):
    """A fraction comes too late in the numbering."""

    def __init__(self):
        Refusal.__init__(self, -8)


class TooManyRepeat(Refusal):
    """An expansion's brackets are too long."""

    def __init__(self):
        Refusal.__init__(self, -8)
