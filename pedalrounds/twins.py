"""PEDALs that nobody can tell from one another: TWINS."""

from pedalrounds.errors import OutOfPlace
from pedalrounds.pedals import EMPTY, HOLDING, LAYERS, MODE, PACE, POINT, WAY, need_pedal, put


def plain(pedal):
    """The PLAIN form of the PEDAL."""
    return tuple([plain_track(track) for track in need_pedal(pedal)])


def are_twins(one, other):
    """Whether the two PEDALs are TWINS."""
    need_pedal(one)
    need_pedal(other)
    if len(one) != len(other):
        raise OutOfPlace("two PEDALs are compared that have as many TRACKs")
    return plain(one) == plain(other)


def plain_track(track):
    """The TRACK with the POINT, the WAY and the PACE of EMPTY if its LENGTH is 1."""
    if track[MODE] not in HOLDING or len(track[LAYERS][0]) != 1:
        return track
    for part in (POINT, WAY, PACE):
        track = put(track, part, EMPTY[part])
    return track
