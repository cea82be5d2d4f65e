"""ways.py: points [18] and [19], and point [1] as far as ways.py keeps it."""

import copy
import itertools
import random
import time
import unittest

from pedalrounds.errors import BadRow, OutOfPlace
from pedalrounds.pedals import EMPTY, empty_pedal, is_idle, pressed, ticked
from pedalrounds.plays import played
from pedalrounds.shares import parting
from pedalrounds.ways import hushed, way_to
from models import WORDS, Model, chance_row, chance_sound, chance_track, presses_of
from wrongs import NO_INTEGERS, NO_NUMBERS_OF_TRACKS, NO_PRESSES, NO_ROWS, NO_TUPLES, TAP, Refusals

FRESH = ("record", ((),), (), 0, 1, 2, 1, False)
RECORD = ("record", ((5, 7),), (), 0, 1, 2, 1, False)
PLAY = ("play", ((5, 7),), (), 3, 1, 2, 1, False)
LAYERS = ("play", ((5, 7), (1, 2)), ((3, 4),), 3, -1, 4, -1, True)
FULL = ("play", ((1, 5), (2, 6), (3, 7), (4, 8)), (), 1, -1, 1, 1, False)
DUB = ("dub", ((5, 7), (0, 2), (1, 1)), (), 2, -1, 1, -1, True)
STOP = ("stop", ((5, 7), (1, 2)), ((3, 4), (8, 9)), 0, -1, 4, -1, True)
TRACKS = (EMPTY, FRESH, RECORD, PLAY, LAYERS, FULL, DUB, STOP)
PRESSES = sorted(presses_of(1))
NO_TRACKS = NO_TUPLES + (
    (), EMPTY[:7], EMPTY + (0,), list(EMPTY), (EMPTY,), ("play",) + EMPTY[1:], ("stop",) + PLAY[1:],
    ("record", ((1,) * 64,), (), 0, 1, 2, 1, False), ("dub",) + PLAY[1:], PLAY[:3] + (4,) + PLAY[4:],
    PLAY[:4] + (True,) + PLAY[5:], PLAY[:7] + (0,), ("play", ((5, True),), (), 0, 1, 2, 1, False),
    ("play", ((5, 7), (1,)), (), 0, 1, 2, 1, False), ("play", ((5,),) * 5, (), 0, 1, 2, 1, False),
)


def ways_by_search(start):
    """The first of the shortest ways to each TRACK that can be reached, press by press."""
    ways = {start: ()}
    fresh = [start]
    while fresh:
        found = []
        for track in fresh:
            for press in PRESSES:
                behind = pressed((track,), press)[0]
                if behind not in ways:
                    ways[behind] = ways[track] + (press,)
                    found.append(behind)
        fresh = found
    return ways


def walked(track, way):
    for press in way:
        track = pressed((track,), press)[0]
    return track


def idle_by_model(tracks, row):
    """For each STEP of a ROW, which of its PRESSes are IDLE, told by a model with a SOUND of its own."""
    models = [Model() for number in range(tracks)]
    told = []
    for at, step in enumerate(row):
        idle = []
        for press in step:
            before = models[press[1]].track()
            models[press[1]].press(press[0], *press[2:])
            idle.append(models[press[1]].track() == before)
        told.append(idle)
        for model in models:
            model.tick(at + 3)
    return told


class Hushed(Refusals):
    def test_idle_presses_of_each_kind(self):
        idle_there = {
            # With EMPTY all but a tap.
            (): [press for press in presses_of(1) if press != TAP],
            # While it records.
            ((TAP,),): [(word, 0) for word in WORDS if word not in ("tap", "stop", "clear")]
            + [("pace", 0, pace) for pace in (1, 2, 4)],
            # While it plays one layer.
            ((TAP,), (TAP,)): [("undo", 0), ("redo", 0), ("join", 0), ("pace", 0, 2)],
            # While it dubs.
            ((TAP,), (TAP, TAP)): [("redo", 0), ("join", 0), ("pace", 0, 2)],
            # While it is stopped.
            ((TAP,), (("stop", 0),)): [("stop", 0), ("undo", 0), ("redo", 0), ("join", 0), ("pace", 0, 2)],
            # With four layers.
            ((TAP,), (TAP,) * 7): [TAP, ("redo", 0), ("pace", 0, 2)],
        }
        for row, presses in idle_there.items():
            for press in presses_of(1):
                told = hushed(1, row + ((press,),))
                self.assertEqual(told, row + (((),) if press in presses else ((press,),)), (row, press))

    def test_by_hand(self):
        self.assertEqual(hushed(1, ()), ())
        self.assertEqual(hushed(4, ((),) * 200), ((),) * 200)
        self.assertEqual(hushed(1, ((TAP, TAP, TAP),)), ((TAP, TAP, TAP),))
        self.assertEqual(hushed(1, ((("undo", 0), TAP, ("undo", 0)),)), ((TAP,),))
        row = ((TAP,), (TAP, ("pace", 0, 4), ("pace", 0, 4), ("pace", 0, 2)), (("redo", 0), ("turn", 0), ("turn", 0)))
        told = ((TAP,), (TAP, ("pace", 0, 4), ("pace", 0, 2)), (("turn", 0), ("turn", 0)))
        self.assertEqual(hushed(1, row), told)

    def test_idle_by_the_track_alone(self):
        row = ((("tap", 1),), (("tap", 1), ("flip", 0), ("flip", 1), ("flip", 2)), (("tap", 0), ("stop", 0), ("stop", 0)))
        told = ((("tap", 1),), (("tap", 1), ("flip", 1)), (("tap", 0), ("stop", 0)))
        self.assertEqual(hushed(3, row), told)

    def test_a_recording_that_is_full_plays(self):
        row = ((TAP,),) + ((),) * 62 + ((("turn", 0),), (("turn", 0),))
        self.assertEqual(hushed(1, row), ((TAP,),) + ((),) * 63 + ((("turn", 0),),))

    def test_against_a_model(self):
        chance = random.Random(91)
        left_out = 0
        for turn in range(60):
            tracks = chance.randint(1, 4)
            row = chance_row(chance, tracks, 50, 5, 3)
            told = idle_by_model(tracks, row)
            kept = tuple(
                tuple(press for press, idle in zip(step, flags) if not idle) for step, flags in zip(row, told)
            )
            self.assertEqual(hushed(tracks, row), kept)
            left_out += sum(map(sum, told))
        self.assertGreater(left_out, 500)

    def test_it_is_played_alike_with_sounds_of_several_kinds(self):
        chance = random.Random(92)
        for turn in range(30):
            tracks = chance.randint(1, 4)
            row = chance_row(chance, tracks, 60, 5, 3)
            told = hushed(tracks, row)
            self.assertIsNone(parting(tracks, row, told))
            for sound in ((0,) * 60, (1,) * 60, chance_sound(chance, 60), (-10 ** 999,) * 60, tuple(range(60))):
                begun = empty_pedal(tracks)
                self.assertEqual(played(told, sound, pedal=begun), played(row, sound, pedal=begun))
                pedal = begun
                for step, sample in zip(told, sound):
                    for press in step:
                        self.assertIs(is_idle(pedal, press), False)
                        pedal = pressed(pedal, press)
                    pedal = ticked(pedal, sample)[1]

    def test_hushed_again_it_stays(self):
        chance = random.Random(93)
        for turn in range(30):
            tracks = chance.randint(1, 4)
            told = hushed(tracks, chance_row(chance, tracks, 60, 5, 3))
            self.assertEqual(hushed(tracks, told), told)

    def test_long_rows_in_a_short_time(self):
        chance = random.Random(94)
        begun = time.process_time()
        for turn in range(20):
            row = tuple(tuple(chance.choice(presses_of(4)) for press in range(8)) for step in range(200))
            self.assertEqual(len(hushed(4, row)), 200)
        # Far more than it takes, so that a slow machine does not fail it.
        self.assertLess(time.process_time() - begun, 10)

    def test_wrong_arguments_in_their_order(self):
        for row, place in NO_ROWS:
            self.refuse(BadRow, lambda: hushed(1, row), place=place)
        for press in NO_PRESSES:
            self.refuse(BadRow, lambda: hushed(4, ((), (press,))), place=(1, 0))
        self.refuse(BadRow, lambda: hushed(1, ((("tap", 1),),)), place=(0, 0))
        for tracks in NO_NUMBERS_OF_TRACKS:
            for row in ((), ((TAP,),), None, ((None,),)):
                self.refuse(OutOfPlace, lambda: hushed(tracks, row))
                self.refuse(OutOfPlace, lambda: hushed(row=row, tracks=tracks))


class WayTo(Refusals):
    def test_the_empty_way(self):
        for track in TRACKS:
            self.assertEqual(way_to(track, track), ())

    def test_by_hand(self):
        playing = ("play",) + RECORD[1:]
        stopped = ("stop",) + RECORD[1:]
        for track, goal, way in (
            (EMPTY, FRESH, "tap"), (FRESH, EMPTY, "clear"), (RECORD, EMPTY, "clear"), (PLAY, EMPTY, "clear"),
            (RECORD, playing, "tap"), (RECORD, stopped, "stop"), (playing, stopped, "stop"), (stopped, playing, "tap"),
            (PLAY, playing, "stop tap"), (PLAY, FRESH, "clear tap"), (RECORD, FRESH, "clear tap"),
            (PLAY, PLAY[:4] + (-1, 2, -1, True), "flip mute turn"),
            (RECORD, playing[:4] + (-1, 2, -1, True), "tap flip mute turn"),
            (RECORD, stopped[:4] + (-1, 2, -1, True), "stop flip mute turn"),
            (stopped, playing[:4] + (-1, 2, -1, True), "flip mute tap turn"),
            (PLAY, ("dub", ((5, 7), (0, 0))) + PLAY[2:], "tap"), (PLAY, ("play", ((5, 7), (0, 0))) + PLAY[2:], "tap tap"),
            (PLAY, ("play", ((5, 7),), ((0, 0),)) + PLAY[3:], "tap undo"), (FULL, ("play", ((10, 26),)) + FULL[2:], "join"),
            (FULL, ("play", ((1, 5),), ((4, 8), (3, 7), (2, 6))) + FULL[3:], "undo undo undo"),
            (FULL, ("play", ((6, 18),)) + FULL[2:], "undo join"), (DUB, ("play",) + DUB[1:], "tap"),
            (FULL, ("dub", ((6, 18), (0, 0))) + FULL[2:], "undo join tap"),
            (EMPTY, EMPTY, ""), (STOP, EMPTY, "clear"), (STOP, FRESH, "clear tap"),
        ):
            expected = tuple((word, 0) for word in way.split())
            self.assertEqual(way_to(track, goal), expected, (track, goal))

    def test_paces(self):
        for pace in (1, 2, 4):
            goal = PLAY[:5] + (pace,) + PLAY[6:]
            self.assertEqual(way_to(PLAY, goal), () if pace == 2 else (("pace", 0, pace),))
            self.assertEqual(way_to(goal, PLAY), () if pace == 2 else (("pace", 0, 2),))
            turned = goal[:4] + (-1, pace, -1) + goal[7:]
            way = (("flip", 0),) + (() if pace == 2 else (("pace", 0, pace),)) + (("turn", 0),)
            self.assertEqual(way_to(PLAY, turned), way)

    def test_none_where_no_presses_lead(self):
        for goal in TRACKS[2:]:
            self.assertIsNone(way_to(EMPTY, goal))
            self.assertIsNone(way_to(FRESH, goal))
        for track, goal in (
            (PLAY, RECORD), (RECORD, RECORD[:1] + (((5, 8),),) + RECORD[2:]), (PLAY, PLAY[:3] + (2,) + PLAY[4:]),
            (PLAY, ("play", ((5, 8),)) + PLAY[2:]), (PLAY, ("play", ((5, 7), (1, 0))) + PLAY[2:]), (PLAY, STOP),
            (PLAY, ("play", ((0, 0), (5, 7))) + PLAY[2:]), (PLAY, ("play", ((5, 7, 0),), ()) + PLAY[3:]),
            (RECORD, PLAY), (LAYERS, ("play", ((3, 4),), ()) + LAYERS[3:]), (PLAY, ("play", ((5,),), (), 0) + PLAY[4:]),
            (RECORD, ("record", ((5, 7, 0),)) + RECORD[2:]), (FRESH, RECORD), (STOP, STOP[:2] + ((),) + STOP[3:]),
        ):
            self.assertIsNone(way_to(track, goal), (track, goal))

    def test_from_each_track_to_each_other_one(self):
        for track in TRACKS:
            ways = ways_by_search(track)
            for goal in TRACKS:
                self.assertEqual(way_to(track, goal), ways.get(goal), (track, goal))

    def test_against_a_search_press_by_press(self):
        chance = random.Random(95)
        longest = 0
        for track in (EMPTY, FRESH, RECORD, PLAY, LAYERS, DUB):
            ways = ways_by_search(track)
            goals = sorted(ways, key=repr)
            for goal in chance.sample(goals, min(len(goals), 500)):
                self.assertEqual(way_to(track, goal), ways[goal], (track, goal))
                longest = max(longest, len(ways[goal]))
        self.assertGreater(longest, 9)

    def test_four_layers_against_a_search(self):
        chance = random.Random(96)
        for track in (FULL, ("stop", ((1,), (1,)), ((1,), (0,)), 0, 1, 1, -1, False)):
            ways = ways_by_search(track)
            self.assertGreater(len(ways), 1000)
            longest = max(map(len, ways.values()))
            goals = [goal for goal in ways if len(ways[goal]) >= longest - 1] + chance.sample(sorted(ways, key=repr), 300)
            for goal in goals:
                self.assertEqual(way_to(track, goal), ways[goal], (track, goal))

    def test_layers_that_are_alike(self):
        # Equal layers, and layers of 0s, can be reached in more than one manner.
        for layers, undone in itertools.product((((0,),), ((0,), (0,)), ((2,), (2,)), ((2,), (-2,))), ((), ((2,),), ((0,),))):
            for mode in ("play", "stop"):
                track = (mode, layers, undone, 0, 1, 2, 1, False)
                ways = ways_by_search(track)
                goals = [
                    ("play", ((0,),), ((0,),), 0, 1, 2, 1, False), ("stop", ((0,), (0,)), (), 0, 1, 2, -1, False),
                    ("play", ((4,),), (), 0, 1, 2, 1, False), ("dub", ((2,), (0,)), (), 0, -1, 2, 1, False),
                    ("dub", ((0,), (0,)), (), 0, 1, 4, 1, True), ("play", ((2,), (0,)), ((0,),), 0, 1, 2, 1, False),
                ]
                for goal in goals:
                    self.assertEqual(way_to(track, goal), ways.get(goal), (track, goal))

    def test_a_way_leads_there(self):
        chance = random.Random(97)
        found = 0
        for turn in range(100):
            track = chance_track(chance, 3, None, 1)
            goal = track
            for press in range(chance.randint(0, 12)):
                goal = pressed((goal,), chance.choice([press for press in PRESSES if press[0] != "clear"]))[0]
            way = way_to(track, goal)
            self.assertEqual(walked(track, way), goal)
            for press in way:
                self.assertIn(press, PRESSES)
            found += len(way) > 3
        self.assertGreater(found, 20)

    def test_great_tracks_in_a_short_time(self):
        chance = random.Random(98)
        begun = time.process_time()
        for most in (9, 10 ** 999):
            layers = tuple(chance_sound(chance, 64, most) for layer in range(4))
            for track in (
                ("play", layers, (), 127, 1, 2, 1, False), ("stop", layers[:2], layers[2:], 0, -1, 4, -1, True),
                ("dub", layers, (), 1, -1, 1, -1, False), ("play", layers[:1], layers[1:], 5, 1, 4, 1, True),
            ):
                self.assertIsNone(way_to(track, PLAY))
                joined = (tuple(sum(cells) for cells in zip(*track[1])),)
                none = (0,) * 64
                goal = ("play", joined + (none,), (none, none), 0, -track[4], 1, -track[6], not track[7])
                way = way_to(track, goal)
                self.assertEqual(walked(track, way), goal)
                self.assertEqual(way_to(track, EMPTY), (("clear", 0),))
        # Far more than it takes, so that a slow machine does not fail it.
        self.assertLess(time.process_time() - begun, 20)

    def test_what_is_no_track(self):
        for thing in NO_TRACKS:
            for track in TRACKS:
                self.refuse(OutOfPlace, lambda: way_to(thing, track))
                self.refuse(OutOfPlace, lambda: way_to(track, thing))
            self.refuse(OutOfPlace, lambda: way_to(thing, thing))
            self.refuse(OutOfPlace, lambda: way_to(goal=thing, track=thing))
        for wrong in NO_INTEGERS:
            self.refuse(OutOfPlace, lambda: way_to(EMPTY, ("record", ((1, wrong),), (), 0, 1, 2, 1, False)))

    def test_the_first_one_ahead_of_the_second_one(self):
        # Both are refused alike; what is wrong first is seen by what is asked first.
        class Asked(Exception):
            pass

        class Thing(tuple):
            def __len__(self):
                raise Asked

        self.refuse(OutOfPlace, lambda: way_to(None, Thing(EMPTY)))
        with self.assertRaises(Asked):
            way_to(EMPTY, Thing(EMPTY))
        with self.assertRaises(Asked):
            way_to(Thing(EMPTY), None)


class Calls(Refusals):
    def test_by_name(self):
        self.assertEqual(hushed(row=((("undo", 0), TAP),), tracks=1), ((TAP,),))
        self.assertEqual(way_to(goal=FRESH, track=EMPTY), (TAP,))

    def test_kinds_of_results(self):
        told = hushed(1, ((("undo", 0), TAP), ()))
        self.assertIs(type(told), tuple)
        self.assertEqual([type(step) for step in told], [tuple, tuple])
        way = way_to(LAYERS, ("play", ((6, 9),), ()) + LAYERS[3:])
        self.assertEqual(way, (("join", 0),))
        self.assertIs(type(way), tuple)

    def test_equal_calls_tell_the_same_and_change_nothing(self):
        chance = random.Random(99)
        kept = copy.deepcopy(TRACKS)
        for track, goal in itertools.product(TRACKS, TRACKS):
            self.assertEqual(way_to(track, goal), way_to(copy.deepcopy(track), copy.deepcopy(goal)))
        self.assertEqual(TRACKS, kept)
        row = chance_row(chance, 4, 30, 5)
        kept = copy.deepcopy(row)
        self.assertEqual(hushed(4, row), hushed(4, kept))
        self.assertEqual(row, kept)


if __name__ == "__main__":
    unittest.main()
