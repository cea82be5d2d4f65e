"""PEDALs: what PRESSes and TICKs make of them."""

from pedalrounds.checks import are_at_most, begins, is_whole, need_sample
from pedalrounds.errors import BadPedal, OutOfPlace

EMPTY = ("empty", (), (), 0, 1, 2, 1, False)
MOST_TRACKS = 4
MOST_LAYERS = 4
MOST_CELLS = 64
PACES = (1, 2, 4)
HOLDING = ("play", "dub", "stop")

# The indexes of the parts of a TRACK.
MODE = 0
LAYERS = 1
UNDONE = 2
POINT = 3
WAY = 4
PACE = 5
SIGN = 6
MUTED = 7


def need_pedal(thing):
    """The thing itself, if it is a PEDAL."""
    if not isinstance(thing, tuple) or not 1 <= len(thing) <= MOST_TRACKS:
        raise BadPedal(())
    for number, track in enumerate(thing):
        if not is_track(track):
            raise BadPedal((number,))
    return thing


def empty_pedal(tracks):
    """A PEDAL of so many EMPTY TRACKs."""
    need_tracks(tracks)
    return (EMPTY,) * tracks


def pressed(pedal, press):
    """The PEDAL behind the PRESS."""
    need_pedal(pedal)
    need_press(pedal, press)
    return behind_press(pedal, press)


def is_idle(pedal, press):
    """Whether the PRESS changes nothing."""
    need_pedal(pedal)
    need_press(pedal, press)
    return behind_press(pedal, press) == pedal


def ticked(pedal, sample):
    """What is heard in a TICK that takes in the sample, and the PEDAL behind it."""
    need_pedal(pedal)
    need_sample(sample)
    return heard_of(pedal), behind_tick(pedal, sample)


def need_tracks(thing):
    """Refuse what is no number of TRACKs."""
    if not is_whole(thing) or not 1 <= thing <= MOST_TRACKS:
        raise OutOfPlace("tracks are an integer from 1 to 4")


def need_press(pedal, press):
    """Refuse what is no PRESS for the PEDAL."""
    if not is_press(len(pedal), press):
        raise OutOfPlace("a PRESS is one of the words and the number of a TRACK, with the pace as a third thing")


def is_press(tracks, thing):
    """Whether the thing is a PRESS for so many TRACKs."""
    if begins(thing, "pace", 3):
        if not is_one_of(thing[2], PACES):
            return False
    elif not any([begins(thing, word, 2) for word in DEEDS]):
        return False
    return is_whole(thing[1]) and 0 <= thing[1] < tracks


def is_one_of(thing, numbers):
    """Whether the thing is one of the numbers; True is not 1."""
    return is_whole(thing) and thing in numbers


def is_track(thing):
    """Whether the thing is a TRACK."""
    if not isinstance(thing, tuple) or len(thing) != len(EMPTY):
        return False
    mode, layers, undone, point, way, pace, sign, muted = thing
    if not isinstance(mode, str) or not are_layers(layers) or not are_layers(undone) or not is_whole(point):
        return False
    if not is_one_of(way, (1, -1)) or not is_one_of(pace, PACES) or not is_one_of(sign, (1, -1)):
        return False
    if not isinstance(muted, bool):
        return False
    if mode == "empty":
        return thing == EMPTY
    if mode == "record":
        return len(layers) == 1 and len(layers[0]) < MOST_CELLS and thing[UNDONE:] == EMPTY[UNDONE:]
    return mode in HOLDING and can_hold(thing)


def are_layers(thing):
    """Whether the thing is a tuple of layers, of any number, none of more cells than there may be."""
    return isinstance(thing, tuple) and all([are_at_most(layer, MOST_CELLS) for layer in thing])


def can_hold(track):
    """Whether a TRACK that holds layers has as many as its MODE asks for, and a POINT in them."""
    mode, layers, undone, point = track[:WAY]
    if len(layers) == 0 or len(layers + undone) > MOST_LAYERS:
        return False
    length = len(layers[0])
    if length == 0 or any([len(layer) != length for layer in layers + undone]):
        return False
    if mode == "dub" and (len(layers) < 2 or undone != ()):
        return False
    if mode == "stop":
        return point == 0
    return 0 <= point < 2 * length


def put(track, part, thing):
    """The TRACK with the thing in the place of one of its parts."""
    return track[:part] + (thing,) + track[part + 1:]


def behind_press(pedal, press):
    """The PEDAL behind the PRESS, both already checked."""
    word, number = press[:2]
    track = pedal[number]
    if word == "pace":
        if track[MODE] in HOLDING:
            track = put(track, PACE, press[2])
    else:
        deed = DEEDS[word]
        track = deed(track)
    return pedal[:number] + (track,) + pedal[number + 1:]


def tap(track):
    """The TRACK, tapped."""
    mode, layers = track[:UNDONE]
    if mode == "empty":
        return ("record", ((),)) + EMPTY[UNDONE:]
    # Only with "record" there may be no cells.
    if layers == ((),):
        return EMPTY
    if mode != "play":
        return put(track, MODE, "play")
    if len(layers) == MOST_LAYERS:
        return track
    fresh = (0,) * len(layers[0])
    return ("dub", layers + (fresh,), ()) + track[POINT:]


def stop(track):
    """The TRACK, stopped."""
    mode, layers = track[:UNDONE]
    if mode == "empty" or layers == ((),):
        return EMPTY
    return put(put(track, MODE, "stop"), POINT, 0)


def clear(track):
    """What is left of any TRACK."""
    return EMPTY


def undo(track):
    """The TRACK without its last layer, which is kept."""
    mode, layers, undone = track[:POINT]
    if len(layers) < 2:
        return track
    if mode == "dub":
        mode = "play"
    return (mode, layers[:-1], undone + layers[-1:]) + track[POINT:]


def redo(track):
    """The TRACK with the layer that was undone last, as it is if none was."""
    mode, layers, undone = track[:POINT]
    return (mode, layers + undone[-1:], undone[:-1]) + track[POINT:]


def join(track):
    """The TRACK with its layers made one."""
    mode, layers = track[:UNDONE]
    if mode == "dub" or len(layers) < 2:
        return track
    joined = tuple([sum(cells) for cells in zip(*layers)])
    return (mode, (joined,), ()) + track[POINT:]


def turn(track):
    """The TRACK, led the other way."""
    if track[MODE] not in HOLDING:
        return track
    return put(track, WAY, -track[WAY])


def flip(track):
    """The TRACK with the other sign."""
    if track[MODE] not in HOLDING:
        return track
    return put(track, SIGN, -track[SIGN])


def mute(track):
    """The TRACK, silenced or heard again."""
    if track[MODE] not in HOLDING:
        return track
    return put(track, MUTED, not track[MUTED])


DEEDS = {
    "tap": tap, "stop": stop, "clear": clear, "undo": undo, "redo": redo, "join": join,
    "turn": turn, "flip": flip, "mute": mute,
}


def every_press(tracks):
    """Each PRESS for so many TRACKs."""
    words = [(word, number) for word in DEEDS for number in range(tracks)]
    return words + [("pace", number, pace) for number in range(tracks) for pace in PACES]


def heard_of(pedal):
    """What is heard of the PEDAL in a TICK."""
    return sum([track[SIGN] * sounded(track) for track in pedal if not track[MUTED]])


def behind_tick(pedal, sample):
    """The PEDAL behind a TICK that takes in the sample, both already checked."""
    return tuple([gone_on(track, sample) for track in pedal])


def sounded(track):
    """The sum of the cells that the TRACK plays now."""
    if track[MODE] not in ("play", "dub"):
        return 0
    cell = track[POINT] // 2
    return sum([layer[cell] for layer in track[LAYERS]])


def gone_on(track, sample):
    """The TRACK behind a TICK that takes in the sample."""
    mode, layers, undone, point, way, pace = track[:SIGN]
    if mode == "record":
        cells = layers[0] + (sample,)
        if len(cells) == MOST_CELLS:
            mode = "play"
        return (mode, (cells,)) + track[UNDONE:]
    if mode not in ("play", "dub"):
        return track
    last = layers[-1]
    if mode == "dub":
        cell = point // 2
        layers = layers[:-1] + (put(last, cell, last[cell] + sample),)
    point = (point + way * pace) % (2 * len(last))
    return (mode, layers, undone, point) + track[WAY:]
