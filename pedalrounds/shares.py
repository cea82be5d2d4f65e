"""SHARES: how often each sample of a SOUND is in what is heard of a ROW.

All SHARES are read off one play. A TRACK takes in a sample into one cell at
most, and no PRESS lays a cell twice; so each of at most 4 TRACKs has a sample
once at most in what it plays, and a SHARE is from -4 to 4. With the powers of
16 as samples, what is heard has the SHARES as its digits.
"""

from pedalrounds.checks import need_tick
from pedalrounds.errors import OutOfPlace, TooGreat
from pedalrounds.pedals import empty_pedal
from pedalrounds.plays import course_behind, first_unlike, heard_at, need_row

MOST_STEPS = 60
BASE = 16


def shares(tracks, row, tick):
    """The SHARES of the ROW at the tick."""
    need_row_within(tracks, row, MOST_STEPS)
    need_tick(tick)
    return shares_at(marked_course(tracks, row), tick, len(row))


def parting(tracks, one, other):
    """The tick and the index at which two ROWs PART, or None."""
    need_row_within(tracks, one, MOST_STEPS)
    need_row_within(tracks, other, MOST_STEPS)
    if len(one) != len(other):
        raise OutOfPlace("two ROWs are compared that have as many STEPS")
    left = marked_course(tracks, one)
    right = marked_course(tracks, other)
    tick = first_unlike(left, right)
    if tick is None:
        return None
    ours = shares_at(left, tick, len(one))
    theirs = shares_at(right, tick, len(other))
    unlike = [index for index in range(len(one)) if ours[index] != theirs[index]]
    return tick, unlike[0]


def need_row_within(tracks, row, most):
    """Refuse what is no ROW for so many TRACKs, then one of more STEPS than are taken."""
    need_row(tracks, row)
    if len(row) > most:
        raise TooGreat(most)


def marked_course(tracks, row):
    """The course of the ROW with the powers of the BASE as its SOUND."""
    marks = [1]
    for step in row:
        marks.append(marks[-1] * BASE)
    return course_behind(empty_pedal(tracks), row, tuple(marks[:-1]))


def shares_at(marked, tick, many):
    """The SHARES of so many samples at the tick of a course with the powers of the BASE as samples."""
    left = heard_at(marked, tick)
    found = []
    for index in range(many):
        # The digit that is as near to 0 as can be.
        share = (left + BASE // 2) % BASE - BASE // 2
        found.append(share)
        left = (left - share) // BASE
    return tuple(found)
