"""The SPAN and the WEIGHTS of LENGTHS, and what they carry on."""

from pedalrounds.checks import are_samples, is_whole, need_many
from pedalrounds.errors import BadLengths, OutOfPlace

MOST_LENGTHS = 6
MOST_LENGTH = 64


def need_lengths(thing):
    """The thing itself, if it is LENGTHS."""
    if not isinstance(thing, tuple) or len(thing) > MOST_LENGTHS:
        raise BadLengths(())
    for at, length in enumerate(thing):
        if not is_whole(length) or not 1 <= length <= MOST_LENGTH:
            raise BadLengths((at,))
    return thing


def span(lengths):
    """The SPAN of the LENGTHS."""
    common = common_multiple(need_lengths(lengths))
    # Over one denominator, fractions are alike exactly if their numerators are.
    return len({number * (common // under) for under in lengths for number in range(under)})


def weights(lengths):
    """The WEIGHTS of the LENGTHS."""
    powers = ring_powers(need_lengths(lengths))
    product = [1]
    # All factors ahead of all divisors, so that each division leaves no rest.
    for length, power in powers.items():
        for turn in range(power):
            product = times_ring(product, length)
    for length, power in powers.items():
        for turn in range(-power):
            product = over_ring(product, length)
    return tuple(product)


def carried(lengths, row, many):
    """The next samples of LOOPS with these LENGTHS that are heard as the row at first."""
    known = weights(lengths)[:-1]
    if not are_samples(row, len(known)):
        raise OutOfPlace("a row is a tuple of as many integers as the SPAN tells")
    need_many(many)
    samples = list(row)
    for tick in range(many):
        # The last one of the WEIGHTS is 1, so the next sample makes up for all others.
        samples.append(-weighted(known, samples[tick:]))
    return tuple(samples[len(row):])


def weighted(factors, samples):
    """The sum of the samples, each times the factor of its index."""
    return sum([factor * sample for factor, sample in zip(factors, samples)])


def common_divisor(one, other):
    """The greatest common divisor of two integers from 0 on."""
    while other != 0:
        one, other = other, one % other
    return one


def common_multiple(lengths):
    """The least common multiple of the lengths, 1 of none."""
    common = 1
    for length in lengths:
        common = common * (length // common_divisor(common, length))
    return common


def ring_powers(lengths):
    """The power of each ring in the WEIGHTS; with one below 0 it divides.

    The ring of D is the polynomial x ** D - 1. Read as a polynomial, the
    WEIGHTS are the least common multiple of the rings of the LENGTHS. A root of
    it of the order D is one of just the rings of the multiples of D, and it is
    to be a root once: so their powers are to add up to 1.
    """
    powers = {}
    for ring in range(MOST_LENGTH, 0, -1):
        if any([length % ring == 0 for length in lengths]):
            taken = sum([powers[above] for above in powers if above % ring == 0])
            powers[ring] = 1 - taken
    return powers


def times_ring(product, length):
    """A polynomial, its coefficients from the lowest on, times x ** length - 1."""
    gap = [0] * length
    return [raised - held for raised, held in zip(gap + product, product + gap)]


def over_ring(product, length):
    """A polynomial divided by x ** length - 1, where no rest is left."""
    quotient = [0] * length
    for at in range(len(product) - length):
        quotient.append(quotient[at] - product[at])
    return quotient[length:]
