"""Which samples of a ROW are TOLD, told by papers."""

from pedalrounds.checks import are_samples, begins, is_tick, is_whole
from pedalrounds.errors import BadPaper, OutOfPlace
from pedalrounds.pedals import empty_pedal
from pedalrounds.plays import course_behind, first_unlike, ticks_to_part
from pedalrounds.shares import marked_course, need_row_within, shares_at
from pedalrounds.spans import common_divisor, common_multiple, weighted

MOST_STEPS = 30
SILENCE = ((), ())


def told_back(tracks, row, index):
    """A paper that tells whether the SAMPLE at the index is TOLD."""
    need_row_within(tracks, row, MOST_STEPS)
    need_index(row, index)
    ticks, sums = solved(tracks, row)
    others = others_in(sums, index, len(row))
    if others == ():
        return told_paper(ticks, sums[index], index)
    return ("hidden", hidden_sound(sums, others[0], len(row)))


def check_told(tracks, row, index, paper):
    """The word of a paper that tells whether the SAMPLE at the index is TOLD, if it holds."""
    need_row_within(tracks, row, MOST_STEPS)
    need_index(row, index)
    if begins(paper, "told", 3):
        if not are_telling(tracks, row, index, paper[1], paper[2]):
            raise BadPaper("factors")
        return "told"
    if begins(paper, "hidden", 2):
        if not is_hiding(tracks, row, index, paper[1]):
            raise BadPaper("sound")
        return "hidden"
    raise BadPaper("form")


def all_told(tracks, row):
    """The indexes of the ROW whose samples are TOLD."""
    need_row_within(tracks, row, MOST_STEPS)
    sums = solved(tracks, row)[1]
    return tuple([index for index in range(len(row)) if others_in(sums, index, len(row)) == ()])


def need_index(row, index):
    """Refuse what is no index of a STEP of the ROW."""
    if not is_whole(index) or not 0 <= index < len(row):
        raise OutOfPlace("an index is one of a STEP of the ROW")


def are_telling(tracks, row, index, factors, divisor):
    """Whether the things are FACTORS and a DIVISOR that tell the SAMPLE at the index."""
    if not are_factors(factors) or not is_whole(divisor) or divisor < 1:
        return False
    marked = marked_course(tracks, row)
    rows = [shares_at(marked, tick, len(row)) for tick, factor in factors]
    times = [factor for tick, factor in factors]
    sums = [weighted(times, [line[at] for line in rows]) for at in range(len(row))]
    return sums == [divisor * int(at == index) for at in range(len(row))]


def are_factors(thing):
    """Whether the thing is an ascending tuple of pairs of a TICK, none of them twice, and a FACTOR."""
    if not isinstance(thing, tuple) or not all([are_samples(pair, 2) for pair in thing]):
        return False
    if not all([is_tick(tick) and factor != 0 for tick, factor in thing]):
        return False
    return all([thing[at][0] < thing[at + 1][0] for at in range(len(thing) - 1)])


def is_hiding(tracks, row, index, sound):
    """Whether the thing is a SOUND of which 0 is heard, with a SAMPLE other than 0 at the index."""
    if not are_samples(sound, len(row)) or sound[index] == 0:
        return False
    return first_unlike(course_behind(empty_pedal(tracks), row, sound), SILENCE) is None


def solved(tracks, row):
    """Ticks, and sums of their SHARES that are put in order.

    Each sum is a list: its shares, then the factors of the ticks in it. It
    stands under the index that it leads, where all other sums have 0. All SHARES
    at all ticks are sums of these, times fractions.
    """
    many = len(row)
    marked = marked_course(tracks, row)
    ticks = []
    sums = {}
    for tick in range(ticks_to_part(marked, SILENCE)):
        fresh = list(shares_at(marked, tick, many)) + [int(place == len(ticks)) for place in range(many)]
        for index, held in sums.items():
            fresh = without(fresh, index, held)
        led = [index for index in range(many) if fresh[index] != 0]
        if led:
            sums = {index: without(held, led[0], fresh) for index, held in sums.items()}
            sums[led[0]] = fresh
            ticks.append(tick)
    return ticks, sums


def without(one, index, other):
    """The least sum of one list, times a factor, and another one that has 0 at the index."""
    if one[index] == 0:
        return one
    mixed = [other[index] * thing - one[index] * taken for thing, taken in zip(one, other)]
    # Not all are 0: no two lists have the same factors, nor multiples of them.
    common = 0
    for thing in mixed:
        common = common_divisor(common, abs(thing))
    return [thing // common for thing in mixed]


def others_in(sums, index, many):
    """The indexes that keep the SAMPLE at this one from being TOLD: none if it is.

    Where no sum leads the index, that is the index itself.
    """
    if index not in sums:
        return (index,)
    return tuple([at for at in range(many) if at != index and sums[index][at] != 0])


def told_paper(ticks, alone, index):
    """The paper that the sum tells that has a share other than 0 at the index alone."""
    sign = 1 if alone[index] > 0 else -1
    behind = alone[len(alone) // 2:]
    factors = [(tick, sign * factor) for tick, factor in zip(ticks, behind) if factor != 0]
    return ("told", tuple(factors), sign * alone[index])


def hidden_sound(sums, free, many):
    """A SOUND of which 0 is heard, with a sample other than 0 at an index that no sum leads.

    The sample that a sum leads makes up for what the free one adds to it; all
    others are 0.
    """
    adding = {index: held for index, held in sums.items() if held[free] != 0}
    sound = [0] * many
    sound[free] = common_multiple([abs(held[index]) for index, held in adding.items()])
    for index, held in adding.items():
        sound[index] = -held[free] * (sound[free] // held[index])
    return tuple(sound)
