"""ROWs that are PLAYED, and what is heard of PEDALs to which nothing more happens.

What is heard of a PEDAL for ever is kept as a course, a pair: the tuple of what
is heard at the first ticks, and loops that are heard from then on.
"""

from pedalrounds.checks import are_samples, need_tick
from pedalrounds.errors import BadRow, OutOfPlace
from pedalrounds.loops import sum_at
from pedalrounds.pedals import EMPTY, LAYERS, MODE, MUTED, POINT
from pedalrounds.pedals import behind_press, behind_tick, heard_of, is_press, need_pedal, need_tracks
from pedalrounds.spans import common_divisor

MOST_STEPS = 200
MOST_PRESSES = 8


def need_row(tracks, thing):
    """The thing itself, if it is a ROW for so many TRACKs."""
    need_tracks(tracks)
    if not isinstance(thing, tuple) or len(thing) > MOST_STEPS:
        raise BadRow(())
    for at, step in enumerate(thing):
        if not isinstance(step, tuple) or len(step) > MOST_PRESSES:
            raise BadRow((at,))
    # Only now: a later STEP of a wrong form is told ahead of a wrong PRESS.
    for at, step in enumerate(thing):
        for index, press in enumerate(step):
            if not is_press(tracks, press):
                raise BadRow((at, index))
    return thing


def played(row, sound, *, pedal=(EMPTY,)):
    """What is heard of the ROW with the SOUND, and the PEDAL behind it."""
    need_pedal(pedal)
    need_row(len(pedal), row)
    if not are_samples(sound, len(row)):
        raise OutOfPlace("a SOUND is a tuple of as many integers as the ROW has STEPS")
    return behind_row(pedal, row, sound)


def later_at(pedal, tick):
    """What is heard of the PEDAL at the tick, if nothing more happens."""
    need_pedal(pedal)
    need_tick(tick)
    return heard_at(course_of(pedal), tick)


def rounds(pedal):
    """The ROUNDS of the PEDAL."""
    early, loops = course_of(need_pedal(pedal))
    return len(early), loops


def first_parting(one, other):
    """The first tick at which two PEDALs are heard unlike, or None, if nothing more happens."""
    need_pedal(one)
    need_pedal(other)
    return first_unlike(course_of(one), course_of(other))


def behind_row(pedal, row, sound):
    """What is heard of the ROW, and the PEDAL behind it, all already checked."""
    told = []
    for step, sample in zip(row, sound):
        for press in step:
            pedal = behind_press(pedal, press)
        told.append(heard_of(pedal))
        pedal = behind_tick(pedal, sample)
    return tuple(told), pedal


def course_of(pedal):
    """The course of the PEDAL, if nothing more happens."""
    early = []
    while any([track[MODE] == "record" for track in pedal]):
        early.append(heard_of(pedal))
        pedal = behind_tick(pedal, 0)
    turning = [track for track in pedal if track[MODE] in ("play", "dub") and not track[MUTED]]
    return tuple(early), tuple([once_round(track) for track in turning])


def course_behind(pedal, row, sound):
    """The course of the PEDAL, if the ROW is played and then nothing more happens."""
    told, behind = behind_row(pedal, row, sound)
    early, loops = course_of(behind)
    return told + early, loops


def once_round(track):
    """What a TRACK that plays, or dubs 0s, adds to the sum until its POINT comes back."""
    layers = track[LAYERS]
    point, way, pace, sign = track[POINT:MUTED]
    cells = [sign * sum(column) for column in zip(*layers)]
    ring = 2 * len(cells)
    ticks = ring // common_divisor(ring, pace)
    return tuple([cells[(point + way * pace * tick) % ring // 2] for tick in range(ticks)])


def heard_at(course, tick):
    """What is heard of the course at the tick."""
    early, loops = course
    if tick < len(early):
        return early[tick]
    return sum_at(loops, tick - len(early))


def ticks_to_part(one, other):
    """A number of ticks within which two courses part, if they do."""
    # Behind what is heard at first, it is no more than the SPAN of all lengths,
    # and that is at most their sum.
    return max(len(one[0]), len(other[0])) + sum([len(loop) for loop in one[1] + other[1]])


def first_unlike(one, other):
    """The first tick at which two courses part, or None."""
    for tick in range(ticks_to_part(one, other)):
        if heard_at(one, tick) != heard_at(other, tick):
            return tick
    return None
