"""The errors of the package.

Each one hands its arguments on to its base class just as they are: an error
may be made of any things, so nothing is made a text here.
"""


class BadLoops(ValueError):
    """What was passed as LOOPS is none; place tells where it first is wrong."""

    def __init__(self, place):
        ValueError.__init__(self, place)
        self.place = place


class BadLengths(ValueError):
    """What was passed as LENGTHS is none; place tells where it first is wrong."""

    def __init__(self, place):
        ValueError.__init__(self, place)
        self.place = place


class BadPedal(ValueError):
    """What was passed as a PEDAL is none; place tells where it first is wrong."""

    def __init__(self, place):
        ValueError.__init__(self, place)
        self.place = place


class BadRow(ValueError):
    """What was passed as a ROW is none; place tells where it first is wrong."""

    def __init__(self, place):
        ValueError.__init__(self, place)
        self.place = place


class BadPaper(ValueError):
    """A paper does not hold; part tells which part of it."""

    def __init__(self, part):
        ValueError.__init__(self, part)
        self.part = part


class BadText(ValueError):
    """A text cannot be read; line and word tell where."""

    def __init__(self, line, word):
        ValueError.__init__(self, line, word)
        self.line = line
        self.word = word


class OutOfPlace(ValueError):
    """An argument is wrong that no other error is told for."""

    def __init__(self, text):
        ValueError.__init__(self, text)


class TooGreat(OverflowError):
    """More was passed than is taken; most tells how much is taken."""

    def __init__(self, most):
        OverflowError.__init__(self, most)
        self.most = most


class Nothing(LookupError):
    """What was asked for is not there."""

    def __init__(self, text):
        LookupError.__init__(self, text)
