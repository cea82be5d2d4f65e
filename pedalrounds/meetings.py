"""When loops MEET, told by papers."""

from pedalrounds.checks import are_samples, begins
from pedalrounds.errors import BadPaper, OutOfPlace
from pedalrounds.spans import common_divisor, common_multiple, need_lengths


def meeting(lengths, places):
    """A paper that tells when loops of these LENGTHS MEET at the PLACES."""
    need_lengths(lengths)
    need_places(lengths, places)
    for one in range(len(lengths)):
        for other in range(one + 1, len(lengths)):
            if never_meet(lengths, places, one, other):
                return ("never", one, other)
    return ("tick", first_meeting(lengths, places))


def check_meeting(lengths, places, paper):
    """The word of a paper that tells when loops MEET, if it holds."""
    need_lengths(lengths)
    need_places(lengths, places)
    if begins(paper, "tick", 2) and are_samples(paper[1:], 1):
        if not is_first_meeting(lengths, places, paper[1]):
            raise BadPaper("tick")
        return "tick"
    if begins(paper, "never", 3) and are_samples(paper[1:], 2):
        one, other = paper[1:]
        if not 0 <= one < other < len(lengths) or not never_meet(lengths, places, one, other):
            raise BadPaper("never")
        return "never"
    raise BadPaper("form")


def need_places(lengths, places):
    """Refuse what are no PLACES for the LENGTHS."""
    if not are_samples(places, len(lengths)):
        raise OutOfPlace("PLACES are a tuple of as many integers as there are LENGTHS")
    if not all([0 <= place < length for place, length in zip(places, lengths)]):
        raise OutOfPlace("each of the PLACES is from 0 to one less than its LENGTH")


def never_meet(lengths, places, one, other):
    """Whether the two loops of these indexes never meet."""
    return (places[one] - places[other]) % common_divisor(lengths[one], lengths[other]) != 0


def first_meeting(lengths, places):
    """The first tick at which loops meet of which each two do."""
    tick = 0
    round_of_all = 1
    for length, place in zip(lengths, places):
        while tick % length != place:
            tick += round_of_all
        round_of_all = common_multiple((round_of_all, length))
    return tick


def is_first_meeting(lengths, places, tick):
    """Whether the loops meet at the tick, and at no earlier one."""
    if not 0 <= tick < common_multiple(lengths):
        return False
    return all([tick % length == place for length, place in zip(lengths, places)])
