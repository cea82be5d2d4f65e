"""Which rows LENGTHS FIT, told by papers, and DECEIVERs."""

from pedalrounds.checks import are_at_most, begins
from pedalrounds.errors import BadLoops, BadPaper, OutOfPlace, TooGreat
from pedalrounds.loops import begun_at, need_loops, sum_at
from pedalrounds.spans import common_divisor, need_lengths, ring_powers, span, weighted, weights

MOST_LENGTHS = 4
MOST_LENGTH = 24
MOST_SAMPLES = 200


def fit(lengths, row):
    """A paper that tells whether the LENGTHS FIT the row."""
    need_few(lengths)
    need_samples(row)
    known = weights(lengths)
    ground = first_ground(known, row)
    if ground is not None:
        return ("none", ground)
    many = len(known) - 1
    # What a row is too short to tell is free.
    first = row[:many] + (0,) * (many - len(row))
    return ("loops", loops_heard_as(lengths, first))


def check_fit(lengths, row, paper):
    """The word of a paper that tells whether the LENGTHS FIT the row, if it holds."""
    need_few(lengths)
    need_samples(row)
    if begins(paper, "loops", 2):
        if not are_heard_as(lengths, row, paper[1]):
            raise BadPaper("loops")
        return "loops"
    if begins(paper, "none", 2):
        if not is_ground(lengths, row, paper[1]):
            raise BadPaper("ground")
        return "none"
    raise BadPaper("form")


def deceiver(lengths):
    """A DECEIVER of the LENGTHS."""
    need_few(lengths)
    if len(lengths) == 0:
        raise OutOfPlace("no LENGTHS have a DECEIVER")
    return deceiver_of(lengths)


def need_few(lengths):
    """Refuse what are no LENGTHS, then too many or too great ones."""
    need_lengths(lengths)
    if len(lengths) > MOST_LENGTHS or any([length > MOST_LENGTH for length in lengths]):
        raise TooGreat(MOST_LENGTH)


def need_samples(row):
    """Refuse what is no row that LENGTHS may FIT."""
    if not are_at_most(row, MOST_SAMPLES):
        raise OutOfPlace("a row is a tuple of at most 200 integers")


def first_ground(known, row):
    """The shortest GROUND of the row, or None; known are the WEIGHTS."""
    for tick in range(len(known) - 1, len(row)):
        ahead = tick + 1 - len(known)
        # All samples ahead of the tick are heard of some LOOPS, so no shorter
        # tuple is a GROUND.
        if weighted(known, row[ahead:]) != 0:
            return (0,) * ahead + known
    return None


def is_ground(lengths, row, ground):
    """Whether the thing is a GROUND of the row."""
    if not are_at_most(ground, len(row)):
        return False
    sums = [sum(ground[rest::length]) for length in lengths for rest in range(length)]
    return all([total == 0 for total in sums]) and weighted(ground, row) != 0


def are_heard_as(lengths, row, loops):
    """Whether the thing is LOOPS with these LENGTHS that are heard as the row."""
    try:
        need_loops(loops)
    except BadLoops:
        return False
    if lengths != tuple([len(loop) for loop in loops]):
        return False
    return row == tuple([sum_at(loops, tick) for tick in range(len(row))])


def loops_heard_as(lengths, row):
    """LOOPS with these LENGTHS, heard as a row of as many integers as their SPAN tells.

    A DECEIVER that is begun later is heard as 1 at an earlier tick, and still
    as 0 ahead of it. How often each of these is taken, the WEIGHTS tell: they
    make of the row, with 0s ahead of it, what they make of these 1s.
    """
    if len(lengths) == 0:
        return ()
    known = weights(lengths)
    many = len(row)
    factors = [weighted(known[many - tick:], row) for tick in range(many)]
    return tuple([mixed(loop, factors) for loop in deceiver_of(lengths)])


def mixed(loop, factors):
    """The sum of the loop, begun later and later from the last factor back, times the factors."""
    last = len(factors) - 1
    begun = [begun_at(loop, (last - at) % len(loop)) for at in range(len(factors))]
    return tuple([weighted(factors, [ring[tick] for ring in begun]) for tick in range(len(loop))])


def deceiver_of(lengths):
    """A DECEIVER of the LENGTHS, at least one."""
    loop = last_loop(lengths)
    others = lengths[:-1]
    last = span(lengths) - 1
    # What the others are heard as at first settles them.
    left = [int(tick == last) - loop[tick % len(loop)] for tick in range(span(others))]
    return loops_heard_as(others, tuple(left)) + (loop,)


def last_loop(lengths):
    """The last loop of a DECEIVER: without it, the rest is heard of the other LENGTHS.

    A loop of the length L stands for B / (x ** L - 1), B being the polynomial
    whose coefficients it sounds, the highest one first; a DECEIVER for 1 / W,
    W being the WEIGHTS. So for all roots of W that are none of the other
    LENGTHS, B times W / (x ** L - 1) is to be 1. That quotient is the product
    of (x ** D - 1) / (x ** G - 1) for the rings D of W, with their powers, G
    being the greatest common divisor of D and L. For these roots, x ** L is 1
    and x ** G is not; so 1 / ((x ** D - 1) / (x ** G - 1)) is there the sum of
    1, x ** D, x ** (2 * D) .. of so many things that x ** G would come next.
    """
    length = lengths[-1]
    loop = (0,) * (length - 1) + (1,)
    for ring, power in ring_powers(lengths).items():
        common = common_divisor(ring, length)
        for turn in range(power):
            loop = strides(loop, ring, strides_to(ring, common, length))
        for turn in range(-power):
            loop = strides(loop, common, ring // common)
    return loop


def strides(loop, step, many):
    """The sum of the loop and of it begun step, 2 * step .. ticks later, so many in all."""
    length = len(loop)
    return tuple([sum([loop[(tick + step * turn) % length] for turn in range(many)]) for tick in range(length)])


def strides_to(step, place, length):
    """The least number of steps, at least one, that lead from 0 to the place in a ring."""
    many = 1
    while (many * step - place) % length != 0:
        many += 1
    return many
