"""Checks of the arguments that several modules take."""

from pedalrounds.errors import OutOfPlace


def is_whole(thing):
    """Whether the thing is an integer; True and False are none."""
    return isinstance(thing, int) and not isinstance(thing, bool)


def are_samples(thing, many):
    """Whether the thing is a tuple of so many integers."""
    if not isinstance(thing, tuple) or len(thing) != many:
        return False
    return all([is_whole(sample) for sample in thing])


def are_at_most(thing, most):
    """Whether the thing is a tuple of at most so many integers."""
    return isinstance(thing, tuple) and len(thing) <= most and are_samples(thing, len(thing))


def begins(paper, word, many):
    """Whether the paper is a tuple of so many things, the first one this word."""
    if not isinstance(paper, tuple) or len(paper) != many:
        return False
    return isinstance(paper[0], str) and paper[0] == word


def is_tick(thing):
    """Whether the thing is a tick, or a number of ticks."""
    return is_whole(thing) and 0 <= thing <= 10 ** 30


def need_tick(thing):
    """Refuse what is no tick, and no number of ticks."""
    if not is_tick(thing):
        raise OutOfPlace("a tick is an integer from 0 to 10 ** 30")


def need_sample(thing):
    """Refuse what is no SAMPLE."""
    if not is_whole(thing):
        raise OutOfPlace("a SAMPLE is an integer")


def need_many(thing):
    """Refuse what does not tell how many are asked for."""
    if not is_whole(thing) or not 0 <= thing <= 1000:
        raise OutOfPlace("many is an integer from 0 to 1,000")
