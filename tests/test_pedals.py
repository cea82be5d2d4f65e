"""pedals.py: points [9], [10] and [11], and point [1] as far as pedals.py keeps it."""

import copy
import random
import unittest
import unittest.mock

from pedalrounds.errors import BadPedal, OutOfPlace
from pedalrounds.pedals import EMPTY, empty_pedal, is_idle, need_pedal, pressed, ticked
from models import WORDS, Model, presses_of
from wrongs import GREAT, NO_INTEGERS, NO_TUPLES, Refusals

FRESH = ("record", ((),), (), 0, 1, 2, 1, False)
RECORD = ("record", ((5, 7),), (), 0, 1, 2, 1, False)
PLAY = ("play", ((5, 7), (1, 2)), ((3, 4),), 3, -1, 4, -1, True)
SINGLE = ("play", ((5, 7),), (), 1, 1, 2, 1, False)
FULL = ("play", ((1,), (2,), (3,), (4,)), (), 1, -1, 1, 1, False)
DUB = ("dub", ((5, 7), (0, 2), (1, 1)), (), 2, -1, 1, -1, True)
STOP = ("stop", ((5, 7), (1, 2)), ((3, 4), (8, 9)), 0, -1, 4, -1, True)
REST = (3, -1, 4, -1, True)
STILL = (0, -1, 4, -1, True)
TRACKS = (EMPTY, FRESH, RECORD, PLAY, SINGLE, FULL, DUB, STOP)

# For each PRESS and TRACK what the TRACK is behind it; with what is not told here, the PRESS is IDLE.
CHANGES = {
    "tap": (
        (EMPTY, FRESH), (FRESH, EMPTY), (RECORD, ("play", ((5, 7),), (), 0, 1, 2, 1, False)),
        (PLAY, ("dub", ((5, 7), (1, 2), (0, 0)), ()) + REST),
        (SINGLE, ("dub", ((5, 7), (0, 0)), (), 1, 1, 2, 1, False)),
        (DUB, ("play",) + DUB[1:]), (STOP, ("play",) + STOP[1:]),
    ),
    "stop": (
        (FRESH, EMPTY), (RECORD, ("stop",) + RECORD[1:]), (PLAY, ("stop",) + PLAY[1:3] + STILL),
        (SINGLE, ("stop", ((5, 7),), (), 0, 1, 2, 1, False)), (FULL, ("stop",) + FULL[1:3] + (0, -1, 1, 1, False)),
        (DUB, ("stop",) + DUB[1:3] + (0, -1, 1, -1, True)),
    ),
    "clear": tuple((track, EMPTY) for track in TRACKS[1:]),
    "undo": (
        (PLAY, ("play", ((5, 7),), ((3, 4), (1, 2))) + REST),
        (FULL, ("play", ((1,), (2,), (3,)), ((4,),)) + FULL[3:]),
        (DUB, ("play", ((5, 7), (0, 2)), ((1, 1),)) + DUB[3:]),
        (STOP, ("stop", ((5, 7),), ((3, 4), (8, 9), (1, 2))) + STILL),
    ),
    "redo": (
        (PLAY, ("play", ((5, 7), (1, 2), (3, 4)), ()) + REST),
        (STOP, ("stop", ((5, 7), (1, 2), (8, 9)), ((3, 4),)) + STILL),
    ),
    "join": (
        (PLAY, ("play", ((6, 9),), ()) + REST), (FULL, ("play", ((10,),), ()) + FULL[3:]),
        (STOP, ("stop", ((6, 9),), ()) + STILL),
    ),
    "turn": tuple((track, track[:4] + (-track[4],) + track[5:]) for track in TRACKS[3:]),
    "flip": tuple((track, track[:6] + (-track[6], track[7])) for track in TRACKS[3:]),
    "mute": tuple((track, track[:7] + (not track[7],)) for track in TRACKS[3:]),
}

# What is wrong in one part alone, by the TRACK it stands in and the index of the part.
SPOILED = (
    (EMPTY, 0, (unittest.mock.ANY, "play", "stop", "dub", "", "Empty", None, b"empty", ("empty",), 0, ["empty"])),
    (EMPTY, 1, (((),), ((1,),), [], None)),
    (EMPTY, 2, (((),), ((1,),), [], None)),
    (EMPTY, 3, (1, -1, False, 0.0, None)),
    (EMPTY, 4, (-1, 0, True, 1.0)),
    (EMPTY, 5, (1, 4, True, 2.0, "2")),
    (EMPTY, 6, (-1, 0, True, 1.0)),
    (EMPTY, 7, (True, 0, 1, None)),
    (RECORD, 0, (unittest.mock.ANY, "empty", "dub", "recorded", "", None)),
    (RECORD, 1, ((), ((1,), (2,)), ((1,) * 64,), ((1,) * 65,), ([1],), [(1,)], (1,), ((True,),), ((1, None),), None)),
    (RECORD, 2, (((5, 7),), ((),), [], None)),
    (RECORD, 3, (1, -1, False, None)),
    (RECORD, 4, (-1, True)),
    (RECORD, 5, (1, 4, True)),
    (RECORD, 6, (-1, True)),
    (RECORD, 7, (True, 0, 1, None)),
    (PLAY, 0, (unittest.mock.ANY, "empty", "record", "dub", "stop", "played", "Play", None, 1, b"play")),
    (PLAY, 1, (
        (), ((),), ((), ()), ((5, 7), (1,)), ((5,), (1,)), ((5, 7, 9),), ((5, 7),) * 4, ((1, 2), [1, 2]), [(5, 7)],
        ((5, True),), ((5, 7), (1, "2")), ((5, 7.0),), ((5, 7), 1), None, "ab", ((5, 7),) * 9,
    )),
    (PLAY, 2, (
        ((),), ((3,),), ((3, 4, 5),), ((3, 4),) * 3, ([3, 4],), [(3, 4)], ((3, False),), ((3, None),), (3, 4), None,
        ((3, 4), (3,)), ((3, 4), ()),
    )),
    (PLAY, 3, (-1, 4, 5, GREAT, -GREAT, True, None, "1", 1.0)),
    (PLAY, 4, (0, 2, -2, True, None, "1", 1.0, -1.0)),
    (PLAY, 5, (0, 3, -1, -2, 8, True, None, 2.0)),
    (PLAY, 6, (0, 2, -2, True, None, 1.0, -1.0)),
    (PLAY, 7, (0, 1, None, "True", ())),
    (FULL, 1, (((1,),) * 5, ())),
    (FULL, 2, (((1,),),)),
    (FULL, 3, (2, -1)),
    (DUB, 0, ("stop", "empty", "record", "Dub")),
    (DUB, 1, (((5, 7),), (), ((5, 7),) * 5, ((5, 7), (1,)))),
    (DUB, 2, (((1, 2),), ((),), [])),
    (DUB, 3, (-1, 4)),
    (STOP, 0, ("dub", "empty", "record", "stopped")),
    (STOP, 1, ((), ((5, 7),) * 3)),
    (STOP, 2, (((3, 4),) * 3,)),
    (("stop", ((5,), (6,)), (), 0, 1, 2, 1, False), 1, (((),), ((), ()), ((1,), ()), ())),
    (STOP, 3, (1, 2, 3, -1, False)),
    (STOP, 4, (0, True)),
    (STOP, 5, (3, True)),
    (STOP, 6, (0, True)),
    (STOP, 7, (0, 1)),
)
NO_TRACKS = NO_TUPLES + (
    (), EMPTY[:7], EMPTY + (0,), list(EMPTY), PLAY[:7], PLAY + (False,), ("empty",), (EMPTY,), ("play", (), (), 0, 1, 2, 1, False),
    ("play", ((1,) * 65,), (), 0, 1, 2, 1, False), ("record", ((1,) * 64,), (), 0, 1, 2, 1, False),
)


def spoiled_tracks():
    return [track[:part] + (thing,) + track[part + 1:] for track, part, things in SPOILED for thing in things]


def take(pedal, samples):
    """What is heard at so many ticks, and the PEDAL behind them."""
    told = []
    for sample in samples:
        heard, pedal = ticked(pedal, sample)
        told.append(heard)
    return told, pedal


class NeedPedal(Refusals):
    def test_empty(self):
        self.assertEqual(EMPTY, ("empty", (), (), 0, 1, 2, 1, False))
        self.assertEqual([type(part) for part in EMPTY], [str, tuple, tuple, int, int, int, int, bool])

    def test_pedals_are_told_themselves(self):
        for track in TRACKS:
            for pedal in ((track,), (EMPTY, track), (track,) * 3, (track,) * 4, TRACKS[:4], TRACKS[4:]):
                self.assertIs(need_pedal(pedal), pedal)

    def test_the_bounds_of_tracks(self):
        for length in range(1, 65):
            layer = (3,) * length
            for mode in ("play", "stop"):
                for layers in range(1, 5):
                    for undone in range(0, 5 - layers):
                        track = (mode, (layer,) * layers, (layer,) * undone, 0, 1, 2, 1, False)
                        self.assertEqual(need_pedal((track,)), (track,))
            for mode in ("play", "dub"):
                for point in (0, 1, 2 * length - 1):
                    track = (mode, (layer,) * 2, (), point, -1, 1, -1, True)
                    self.assertEqual(need_pedal((track,)), (track,))
                for point in (-1, 2 * length, 2 * length + 1):
                    track = (mode, (layer,) * 2, (), point, -1, 1, -1, True)
                    self.refuse(BadPedal, lambda: need_pedal((track,)), place=(0,))
        for cells in range(64):
            track = ("record", ((3,) * cells,), (), 0, 1, 2, 1, False)
            self.assertEqual(need_pedal((track,)), (track,))

    def test_each_way_pace_sign_and_muted(self):
        for track in (PLAY, DUB, STOP):
            for part, things in ((4, (1, -1)), (5, (1, 2, 4)), (6, (1, -1)), (7, (True, False))):
                for thing in things:
                    pedal = (track[:part] + (thing,) + track[part + 1:],)
                    self.assertIs(need_pedal(pedal), pedal)

    def test_cells_of_any_digits(self):
        pedal = (("play", ((10 ** 1500, -GREAT),), (), 0, 1, 2, 1, False),)
        self.assertIs(need_pedal(pedal), pedal)

    def test_no_tuple_of_1_to_4_things(self):
        for thing in NO_TUPLES + ((), (EMPTY,) * 5, (None,) * 5, [EMPTY], {EMPTY: 1}):
            self.refuse(BadPedal, lambda: need_pedal(thing), place=())

    def test_no_track_by_one_part_alone(self):
        for track in spoiled_tracks():
            self.refuse(BadPedal, lambda: need_pedal((track,)), place=(0,))
            self.refuse(BadPedal, lambda: need_pedal((EMPTY, PLAY, track, track)), place=(2,))

    def test_no_track_at_all(self):
        for track in NO_TRACKS:
            self.refuse(BadPedal, lambda: need_pedal((track,)), place=(0,))
            self.refuse(BadPedal, lambda: need_pedal((EMPTY, RECORD, PLAY, track)), place=(3,))

    def test_things_of_other_kinds_among_the_cells(self):
        for wrong in NO_INTEGERS:
            for track in (
                ("record", ((1, wrong),), (), 0, 1, 2, 1, False), ("play", ((1, wrong),), (), 0, 1, 2, 1, False),
                ("stop", ((1, 1),), ((wrong, 1),), 0, 1, 2, 1, False), ("dub", ((1,), (wrong,)), (), 0, 1, 2, 1, False),
            ):
                self.refuse(BadPedal, lambda: need_pedal((EMPTY, track)), place=(1,))

    def test_the_place_is_a_tuple(self):
        with self.assertRaises(BadPedal) as caught:
            need_pedal((None,))
        self.assertIs(type(caught.exception.place), tuple)
        self.assertIs(type(caught.exception.place[0]), int)


class EmptyPedal(Refusals):
    def test_so_many_empty_tracks(self):
        for tracks in range(1, 5):
            self.assertEqual(empty_pedal(tracks), (EMPTY,) * tracks)

    def test_wrong_numbers(self):
        for tracks in NO_INTEGERS + (0, 5, -1, GREAT, -GREAT):
            self.refuse(OutOfPlace, lambda: empty_pedal(tracks))


class Pressed(Refusals):
    def check(self, track, press, changed):
        """That the PRESS changes just its own TRACK, wherever that stands."""
        for pedal, number in (((track,), 0), ((SINGLE, track, DUB), 1), ((RECORD, PLAY, EMPTY, track), 3)):
            moved = (press[0], number) + press[2:]
            told = pressed(pedal, moved)
            self.assertEqual(told, pedal[:number] + (changed,) + pedal[number + 1:], (track, press))
            self.assertEqual(repr(told), repr(pedal[:number] + (changed,) + pedal[number + 1:]))
            self.assertIs(is_idle(pedal, moved), track == changed)
            self.assertIs(need_pedal(told), told)

    def test_each_press_with_each_mode(self):
        for word in WORDS:
            changes = dict(CHANGES[word])
            for track in TRACKS:
                self.check(track, (word, 0), changes.get(track, track))

    def test_each_pace(self):
        for pace in (1, 2, 4):
            for track in (EMPTY, FRESH, RECORD):
                self.check(track, ("pace", 0, pace), track)
            for track in (PLAY, SINGLE, FULL, DUB, STOP):
                self.check(track, ("pace", 0, pace), track[:5] + (pace,) + track[6:])

    def test_a_dub_drops_what_was_undone(self):
        full = ("play", ((1,),), ((2,), (3,), (4,)), 0, 1, 2, 1, False)
        self.check(full, ("tap", 0), ("dub", ((1,), (0,)), (), 0, 1, 2, 1, False))
        three = ("play", ((1,), (2,), (3,)), ((4,),), 0, 1, 2, 1, False)
        self.check(three, ("tap", 0), ("dub", ((1,), (2,), (3,), (0,)), (), 0, 1, 2, 1, False))

    def test_a_join_of_one_layer_changes_nothing(self):
        track = ("play", ((1,),), ((2,),), 0, 1, 2, 1, False)
        self.check(track, ("join", 0), track)
        track = ("stop",) + track[1:]
        self.check(track, ("join", 0), track)

    def test_no_press_for_the_pedal(self):
        right = [(word, 0) for word in WORDS]
        for press in NO_TUPLES + tuple(list(press) for press in right) + (
            (), ("tap",), ("tap", 0, 0), ("pace", 0), ("pace", 0, 2, 2), (0, "tap"), ("tap", "0"), ("", 0), ("Tap", 0),
            ("tap ", 0), ("play", 0), ("record", 0), (b"tap", 0), (("tap",), 0), (None, 0), ["pace", 0, 2],
            (unittest.mock.ANY, 0), (unittest.mock.ANY, 0, 2), ("pace", 0, 0), ("pace", 0, 3), ("pace", 0, 8), ("pace", 0, -1), ("tap", 0, 2), ("turn", 0, 1), (["tap"], 0),
        ):
            for call in (pressed, is_idle):
                self.refuse(OutOfPlace, lambda: call((EMPTY, PLAY), press))

    def test_a_track_that_is_not_there(self):
        for tracks in range(1, 5):
            pedal = TRACKS[:tracks]
            for press in presses_of(tracks):
                for number in (tracks, -1, 4, GREAT, -GREAT) + NO_INTEGERS:
                    moved = (press[0], number) + press[2:]
                    for call in (pressed, is_idle):
                        self.refuse(OutOfPlace, lambda: call(pedal, moved))

    def test_a_pace_that_is_none(self):
        for pace in NO_INTEGERS + (0, 3, 5, 8, -1, -2, -4, GREAT):
            for call in (pressed, is_idle):
                self.refuse(OutOfPlace, lambda: call((PLAY,), ("pace", 0, pace)))

    def test_the_pedal_is_refused_first(self):
        for call in (pressed, is_idle):
            self.refuse(BadPedal, lambda: call((EMPTY, None), ("tap", 7)), place=(1,))
            self.refuse(BadPedal, lambda: call(press=None, pedal=[EMPTY]), place=())


class Ticked(Refusals):
    def test_the_example(self):
        pedal = pressed(empty_pedal(1), ("tap", 0))
        told, pedal = take(pedal, (5, 7))
        self.assertEqual(told, [0, 0])
        pedal = pressed(pedal, ("tap", 0))
        self.assertEqual(pedal, (("play", ((5, 7),), (), 0, 1, 2, 1, False),))
        told, pedal = take(pedal, (1,))
        self.assertEqual(told, [5])
        pedal = pressed(pedal, ("tap", 0))
        told, pedal = take(pedal, (2,))
        self.assertEqual(told, [7])
        self.assertEqual(pedal, (("dub", ((5, 7), (0, 2)), (), 0, 1, 2, 1, False),))
        told, pedal = take(pedal, (0,) * 6)
        self.assertEqual(told, [5, 9] * 3)

    def test_nothing_goes_on_that_is_empty_or_stopped(self):
        self.assertEqual(ticked((EMPTY, STOP), 9), (0, (EMPTY, STOP)))

    def test_a_recording(self):
        self.assertEqual(ticked((FRESH,), -4), (0, (("record", ((-4,),), (), 0, 1, 2, 1, False),)))
        self.assertEqual(ticked((RECORD,), 9), (0, (("record", ((5, 7, 9),), (), 0, 1, 2, 1, False),)))

    def test_the_64th_cell_is_the_last_one(self):
        pedal = (FRESH,)
        told, pedal = take(pedal, range(63))
        self.assertEqual(told, [0] * 63)
        self.assertEqual(pedal, (("record", (tuple(range(63)),), (), 0, 1, 2, 1, False),))
        told, pedal = take(pedal, (63,))
        self.assertEqual(told, [0])
        self.assertEqual(pedal, (("play", (tuple(range(64)),), (), 0, 1, 2, 1, False),))
        told, pedal = take(pedal, (0,) * 130)
        self.assertEqual(told, [tick % 64 for tick in range(130)])

    def test_what_is_heard_is_summed(self):
        one = ("play", ((5, 7), (1, 2)), ((100, 100),), 3, 1, 2, 1, False)
        other = ("dub", ((30, 40), (50, 60)), (), 0, 1, 2, -1, False)
        muted = ("play", ((1000, 1000),), (), 0, 1, 2, 1, True)
        self.assertEqual(ticked((one,), 3)[0], 9)
        self.assertEqual(ticked((other,), 3)[0], -80)
        self.assertEqual(ticked((muted,), 3)[0], 0)
        self.assertEqual(ticked((one, other, muted), 3)[0], -71)
        self.assertEqual(ticked((one,) * 4, 3)[0], 36)
        self.assertEqual(ticked((one, STOP, RECORD, EMPTY), 3)[0], 9)

    def test_the_sample_is_laid_over_the_last_layer_alone(self):
        for muted in (True, False):
            for sign in (1, -1):
                track = ("dub", ((1, 2), (3, 4), (5, 6)), (), 2, 1, 1, sign, muted)
                changed = ("dub", ((1, 2), (3, 4), (5, 16)), (), 3, 1, 1, sign, muted)
                heard = 0 if muted else sign * 12
                self.assertEqual(ticked((track,), 10), (heard, (changed,)))

    def test_the_point_goes_on_within_its_bounds(self):
        for length in (1, 2, 3, 63, 64):
            for point in (0, 1, length, 2 * length - 1):
                for way in (1, -1):
                    for pace in (1, 2, 4):
                        for mode in ("play", "dub"):
                            layers = (tuple(range(length)), (0,) * length)
                            track = (mode, layers, (), point, way, pace, 1, False)
                            heard, pedal = ticked((track,), 0)
                            self.assertEqual(heard, point // 2)
                            there = (point + way * pace) % (2 * length)
                            self.assertEqual(pedal, ((mode, layers, (), there, way, pace, 1, False),))

    def test_paces_and_ways(self):
        for way, pace, told in (
            (1, 1, [1, 1, 2, 2, 3, 3, 1, 1]), (1, 2, [1, 2, 3, 1, 2, 3, 1, 2]), (1, 4, [1, 3, 2, 1, 3, 2, 1, 3]),
            (-1, 1, [1, 3, 3, 2, 2, 1, 1, 3]), (-1, 2, [1, 3, 2, 1, 3, 2, 1, 3]), (-1, 4, [1, 2, 3, 1, 2, 3, 1, 2]),
        ):
            track = ("play", ((1, 2, 3),), (), 0, way, pace, 1, False)
            self.assertEqual(take((track,), (0,) * 8)[0], told)

    def test_each_track_goes_on_by_the_mode_that_it_has(self):
        long = ("record", (tuple(range(63)),), (), 0, 1, 2, 1, False)
        heard, pedal = ticked((long, SINGLE, long), 63)
        self.assertEqual(heard, 5)
        self.assertEqual([track[0] for track in pedal], ["play", "play", "play"])
        self.assertEqual([track[3] for track in pedal], [0, 3, 0])

    def test_great_samples(self):
        track = ("dub", ((GREAT,), (GREAT,)), (), 0, 1, 2, -1, False)
        heard, pedal = ticked((track,), -GREAT)
        self.assertEqual(heard, -2 * GREAT)
        self.assertEqual(pedal[0][1], ((GREAT,), (0,)))

    def test_wrong_samples(self):
        for pedal in ((EMPTY,), (PLAY, DUB), (RECORD,)):
            for sample in NO_INTEGERS:
                self.refuse(OutOfPlace, lambda: ticked(pedal, sample))

    def test_the_pedal_is_refused_first(self):
        self.refuse(BadPedal, lambda: ticked((EMPTY, None), None), place=(1,))
        self.refuse(BadPedal, lambda: ticked(sample=None, pedal=()), place=())


class ChanceRuns(Refusals):
    def test_runs_against_a_model(self):
        chance = random.Random(41)
        modes = dict.fromkeys(("empty", "record", "play", "dub", "stop"), 0)
        for turn in range(60):
            tracks = chance.randint(1, 4)
            models = [Model() for number in range(tracks)]
            pedal = empty_pedal(tracks)
            choices = presses_of(tracks) + [("tap", number) for number in range(tracks)] * 6
            for tick in range(150):
                for many in range(chance.choice((0, 0, 0, 1, 1, 3))):
                    press = chance.choice(choices)
                    models[press[1]].press(press[0], *press[2:])
                    expected = tuple(model.track() for model in models)
                    self.assertIs(is_idle(pedal, press), expected == pedal)
                    pedal = pressed(pedal, press)
                    self.assertEqual(pedal, expected)
                sample = chance.randint(-9, 9)
                heard, pedal = ticked(pedal, sample)
                self.assertEqual(heard, sum([model.tick(sample) for model in models]))
                self.assertEqual(pedal, tuple(model.track() for model in models))
                self.assertIs(need_pedal(pedal), pedal)
                for track in pedal:
                    modes[track[0]] += 1
        self.assertGreater(min(modes.values()), 300)


class Calls(Refusals):
    def test_by_name(self):
        self.assertEqual(need_pedal(thing=(EMPTY,)), (EMPTY,))
        self.assertEqual(empty_pedal(tracks=2), (EMPTY, EMPTY))
        self.assertEqual(pressed(press=("tap", 0), pedal=(EMPTY,)), (FRESH,))
        self.assertIs(is_idle(press=("undo", 0), pedal=(EMPTY,)), True)
        self.assertEqual(ticked(sample=1, pedal=(EMPTY,)), (0, (EMPTY,)))

    def test_kinds_of_results(self):
        heard, pedal = told = ticked((PLAY, SINGLE), 1)
        self.assertIs(type(told), tuple)
        self.assertIs(type(heard), int)
        self.assertIs(type(pedal), tuple)
        self.assertIs(type(ticked((EMPTY,), 1)[0]), int)

    def test_equal_calls_tell_the_same_and_change_nothing(self):
        pedal = (PLAY, DUB, STOP, RECORD)
        kept = copy.deepcopy(pedal)
        for press in presses_of(4):
            self.assertEqual(pressed(pedal, press), pressed(pedal, press))
            self.assertEqual(is_idle(pedal, press), is_idle(pedal, press))
        self.assertEqual(ticked(pedal, 3), ticked(pedal, 3))
        self.assertEqual(pedal, kept)

    def test_what_is_refused_is_not_changed(self):
        pedal, press = [EMPTY], ["tap", 0]
        self.refuse(BadPedal, lambda: pressed(pedal, ("tap", 0)), place=())
        self.refuse(BadPedal, lambda: ticked(pedal, 1), place=())
        self.refuse(OutOfPlace, lambda: pressed((EMPTY,), press))
        self.assertEqual((pedal, press), ([EMPTY], ["tap", 0]))


if __name__ == "__main__":
    unittest.main()
