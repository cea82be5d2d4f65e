"""LOOPS, and what is heard of them."""

from pedalrounds.checks import is_whole, need_many, need_tick
from pedalrounds.errors import BadLoops

MOST_LOOPS = 6
MOST_THINGS = 64


def need_loops(thing):
    """The thing itself, if it is LOOPS."""
    if not isinstance(thing, tuple) or len(thing) > MOST_LOOPS:
        raise BadLoops(())
    for at, loop in enumerate(thing):
        if not isinstance(loop, tuple) or not 1 <= len(loop) <= MOST_THINGS:
            raise BadLoops((at,))
    # Only now: a later LOOP of a wrong form is told ahead of a wrong integer.
    for at, loop in enumerate(thing):
        for index, sounded in enumerate(loop):
            if not is_whole(sounded):
                raise BadLoops((at, index))
    return thing


def lengths_of(loops):
    """The LENGTHS of the LOOPS, in their order."""
    return tuple([len(loop) for loop in need_loops(loops)])


def heard(loops, tick):
    """What is heard of the LOOPS at the tick."""
    need_loops(loops)
    need_tick(tick)
    return sum_at(loops, tick)


def heard_row(loops, tick, many):
    """What is heard of the LOOPS at so many ticks from this one on."""
    need_loops(loops)
    need_tick(tick)
    need_many(many)
    return tuple([sum_at(loops, tick + step) for step in range(many)])


def later(loops, ticks):
    """The LOOPS, begun so many ticks later."""
    need_loops(loops)
    need_tick(ticks)
    return tuple([begun_at(loop, ticks % len(loop)) for loop in loops])


def sum_at(loops, tick):
    """The sum of what loops, already checked, sound at a tick."""
    return sum([loop[tick % len(loop)] for loop in loops])


def begun_at(loop, index):
    """The loop once round from the thing of this index on."""
    return loop[index:] + loop[:index]
