"""Whether LOOPS are HEARD ALIKE, and their PERIOD."""

from pedalrounds.loops import MOST_THINGS, begun_at, need_loops, sum_at
from pedalrounds.spans import common_multiple


def first_apart(one, other):
    """The first tick at which two LOOPS part, or None."""
    need_loops(one)
    need_loops(other)
    return parted_at(one, other)


def period(loops):
    """The PERIOD of the LOOPS."""
    need_loops(loops)
    ticks = common_multiple([len(loop) for loop in loops])
    # The PERIOD divides each number of ticks that leads round, and each prime
    # divisor of one divides a LENGTH.
    for divisor in range(2, MOST_THINGS + 1):
        while ticks % divisor == 0 and leads_round(loops, ticks // divisor):
            ticks = ticks // divisor
    return ticks


def silent(loops):
    """Whether 0 is heard of the LOOPS at all ticks."""
    need_loops(loops)
    return parted_at(loops, ()) is None


def parted_at(one, other):
    """The first tick at which two rows of loops, already checked, part, or None."""
    # The SPAN of all LENGTHS is at most their sum.
    for tick in range(sum([len(loop) for loop in one + other])):
        if sum_at(one, tick) != sum_at(other, tick):
            return tick
    return None


def leads_round(loops, ticks):
    """Whether the same is heard at each tick and so many ticks later."""
    moved = tuple([begun_at(loop, ticks % len(loop)) for loop in loops])
    return parted_at(loops, moved) is None
