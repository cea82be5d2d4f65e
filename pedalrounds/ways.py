"""ROWs without IDLE PRESSes, and WAYs from a TRACK to another one.

WAY, PACE, SIGN and MUTED are called switches here: the PRESSes that change them
change nothing else, and no other PRESS changes them, but for those that leave
EMPTY behind. From EMPTY no PRESS leads to a TRACK with switches of its own. So
the search leaves the switches out, which would have it look at each TRACK in 24
forms; how many of them are to be changed is known without it.
"""

from pedalrounds.errors import OutOfPlace
from pedalrounds.pedals import EMPTY, HOLDING, MODE, WAY
from pedalrounds.pedals import behind_press, behind_tick, empty_pedal, every_press, is_track
from pedalrounds.plays import need_row

# The words of the PRESSes that change no switch alone.
LEADING = ("clear", "join", "redo", "stop", "tap", "undo")


def hushed(tracks, row):
    """The ROW without its IDLE PRESSes."""
    need_row(tracks, row)
    pedal = empty_pedal(tracks)
    steps = []
    for step in row:
        kept = []
        for press in step:
            behind = behind_press(pedal, press)
            if behind != pedal:
                kept.append(press)
            pedal = behind
        steps.append(tuple(kept))
        pedal = behind_tick(pedal, 0)
    return tuple(steps)


def way_to(track, goal):
    """The first of the shortest WAYs from the TRACK to the goal, or None."""
    need_track(track)
    need_track(goal)
    left = leading_left(unswitched(track), unswitched(goal))
    many = presses_left(track, goal, left)
    if many is None:
        return None
    way = []
    for turn in range(many):
        press, track = next_on_way(track, goal, left)
        way.append(press)
    return tuple(way)


def need_track(thing):
    """Refuse what is no TRACK."""
    if not is_track(thing):
        raise OutOfPlace("a WAY leads from a TRACK to a TRACK")


def pressed_alone(track, press):
    """The TRACK behind a PRESS, in a PEDAL of it alone."""
    return behind_press((track,), press)[0]


def unswitched(track):
    """The TRACK with the switches of EMPTY."""
    return track[:WAY] + EMPTY[WAY:]


def leading_left(start, goal):
    """How many leading PRESSes it takes to the goal, by each TRACK between it and the start."""
    ahead = led_from(start)
    if goal not in ahead:
        return {}
    left = {goal: 0}
    fresh = [goal]
    while fresh:
        found = []
        for track in fresh:
            for before in ahead[track]:
                if before not in left:
                    left[before] = left[track] + 1
                    found.append(before)
        fresh = found
    return left


def led_from(start):
    """The TRACKs one leading PRESS ahead, by each TRACK that such PRESSes lead to from the start."""
    ahead = {start: []}
    fresh = [start]
    while fresh:
        found = []
        for track in fresh:
            for word in LEADING:
                behind = pressed_alone(track, (word, 0))
                if behind not in ahead:
                    ahead[behind] = []
                    found.append(behind)
                ahead[behind].append(track)
        fresh = found
    return ahead


def presses_left(track, goal, left):
    """How many PRESSes it takes to the goal, or None; left tells the leading ones."""
    many = left.get(unswitched(track))
    # On the way to EMPTY, and to what is recorded, switches do not matter.
    if many is None or goal[MODE] not in HOLDING:
        return many
    return many + sum([int(mine != wanted) for mine, wanted in zip(track[WAY:], goal[WAY:])])


def next_on_way(track, goal, left):
    """The least PRESS that is the next one of a shortest way, and the TRACK behind it."""
    many = presses_left(track, goal, left)
    steps = [(press, pressed_alone(track, press)) for press in sorted(every_press(1))]
    nearer = [step for step in steps if presses_left(step[1], goal, left) == many - 1]
    return nearer[0]
