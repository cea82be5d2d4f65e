"""plays.py: points [12] and [13], and point [1] as far as plays.py keeps it."""

import copy
import math
import random
import time
import unittest

from pedalrounds.errors import BadPedal, BadRow, OutOfPlace
from pedalrounds.pedals import EMPTY, empty_pedal, need_pedal, pressed, ticked
from pedalrounds.plays import first_parting, later_at, need_row, played, rounds
from models import chance_pedal, chance_row, chance_sound, models_of, pedal_of, play, presses_of, wait
from wrongs import (
    BEYOND_TICKS, GREAT, NO_INTEGERS, NO_NUMBERS_OF_TRACKS, NO_PEDALS, NO_PRESSES, NO_ROWS, NO_TUPLES, TAP, Refusals,
)

TAPPED = (TAP,)
# The PEDAL of point [11]: it records 5 and 7, plays over 1, and dubs from the next tick on.
EXAMPLE = (TAPPED, (), TAPPED, TAPPED) + ((),) * 6
SAMPLES = (5, 7, 1, 2) + (0,) * 6
HEARD = (0, 0, 5, 7, 5, 9, 5, 9, 5, 9)
FULL_STEP = (("tap", 0), ("stop", 0), ("clear", 0), ("undo", 0), ("redo", 0), ("join", 0), ("turn", 0), ("pace", 0, 4))
NO_SOUNDS = NO_TUPLES + ((), (0,) * 9, (0,) * 11, list(SAMPLES), SAMPLES[:-1] + (None,))


def playing(cells, point=0, way=1, pace=2, sign=1, muted=False, mode="play"):
    layers = (cells,) if mode == "play" else (cells, (0,) * len(cells))
    return (mode, layers, (), point, way, pace, sign, muted)


def recording(cells):
    return ("record", (cells,), (), 0, 1, 2, 1, False)


def heard_by_ticks(pedal, ticks):
    told = []
    for tick in range(ticks):
        heard, pedal = ticked(pedal, 0)
        told.append(heard)
    return told, pedal


class NeedRow(Refusals):
    def test_rows_are_told_themselves(self):
        for row in ((), ((),), EXAMPLE, ((),) * 200, (FULL_STEP,) * 200, (TAPPED * 8,)):
            for tracks in range(1, 5):
                self.assertIs(need_row(tracks, row), row)

    def test_each_press(self):
        for tracks in range(1, 5):
            for press in presses_of(4):
                row = ((), (("tap", 0), press))
                if press[1] < tracks:
                    self.assertIs(need_row(tracks, row), row)
                else:
                    self.refuse(BadRow, lambda: need_row(tracks, row), place=(1, 1))

    def test_no_rows(self):
        for thing, place in NO_ROWS:
            self.refuse(BadRow, lambda: need_row(1, thing), place=place)

    def test_what_is_no_step(self):
        for thing in NO_TUPLES + (TAPPED * 9, (None,) * 9, [TAP], list(TAPPED)):
            self.refuse(BadRow, lambda: need_row(1, (thing,)), place=(0,))
            self.refuse(BadRow, lambda: need_row(1, (TAPPED, (), thing, thing)), place=(2,))
            self.refuse(BadRow, lambda: need_row(1, ((),) * 199 + (thing,)), place=(199,))

    def test_what_is_no_press(self):
        for thing in NO_PRESSES:
            for tracks in range(1, 5):
                self.refuse(BadRow, lambda: need_row(tracks, ((thing,),)), place=(0, 0))
            self.refuse(BadRow, lambda: need_row(1, (TAPPED, (TAP, TAP, thing, thing), (thing,))), place=(1, 2))
            self.refuse(BadRow, lambda: need_row(4, ((),) * 199 + (TAPPED * 7 + (thing,),)), place=(199, 7))

    def test_a_wrong_step_is_told_ahead_of_a_wrong_press(self):
        for thing in NO_PRESSES:
            for step in (None, TAPPED * 9, [TAP], "tap 0"):
                self.refuse(BadRow, lambda: need_row(1, ((thing,), TAPPED, step)), place=(2,))

    def test_too_many(self):
        self.refuse(BadRow, lambda: need_row(1, ((),) * 201), place=())
        self.refuse(BadRow, lambda: need_row(1, (None,) * 201), place=())
        self.refuse(BadRow, lambda: need_row(1, ((),) * 5000), place=())
        self.refuse(BadRow, lambda: need_row(1, (TAPPED, TAPPED * 9)), place=(1,))

    def test_the_place_is_a_tuple_of_integers(self):
        with self.assertRaises(BadRow) as caught:
            need_row(1, ((), (TAP, None)))
        self.assertEqual([type(part) for part in caught.exception.place], [int, int])
        self.assertIs(type(caught.exception.place), tuple)

    def test_wrong_numbers_of_tracks_ahead_of_the_row(self):
        for tracks in NO_NUMBERS_OF_TRACKS:
            for row in ((), None, ((None,),)):
                self.refuse(OutOfPlace, lambda: need_row(tracks, row))
                self.refuse(OutOfPlace, lambda: need_row(thing=row, tracks=tracks))


class Played(Refusals):
    def test_the_example_of_point_11(self):
        dubbed = ("dub", ((5, 7), (0, 2)), (), 2, 1, 2, 1, False)
        told = played(EXAMPLE, SAMPLES)
        self.assertEqual(told, (HEARD, (dubbed[:3] + (0,) + dubbed[4:],)))
        self.assertEqual(played(EXAMPLE[:9], SAMPLES[:9]), (HEARD[:9], (dubbed,)))

    def test_the_row_without_steps(self):
        self.assertEqual(played((), ()), ((), (EMPTY,)))
        for pedal in ((EMPTY,) * 4, (playing((1, 2)), recording((3,)))):
            self.assertEqual(played((), (), pedal=pedal), ((), pedal))

    def test_a_pedal_that_is_not_told(self):
        self.assertEqual(played(EXAMPLE, SAMPLES), played(EXAMPLE, SAMPLES, pedal=(EMPTY,)))
        self.refuse(BadRow, lambda: played(((("tap", 1),),), (0,)), place=(0, 0))

    def test_the_presses_come_ahead_of_the_tick_in_order(self):
        self.assertEqual(played((TAPPED,), (3,)), ((0,), (recording((3,)),)))
        self.assertEqual(played((TAPPED * 2,), (3,)), ((0,), (EMPTY,)))
        pedal = (playing((4, 6)),)
        self.assertEqual(played(((("flip", 0),),), (3,), pedal=pedal)[0], (-4,))
        self.assertEqual(played(((("stop", 0), TAP),), (3,), pedal=pedal)[0], (4,))
        self.assertEqual(played(((TAP, ("stop", 0)),), (3,), pedal=pedal)[0], (0,))

    def test_a_row_in_two_parts(self):
        chance = random.Random(51)
        for turn in range(40):
            pedal = chance_pedal(chance)
            row = chance_row(chance, len(pedal), 60)
            sound = chance_sound(chance, 60)
            whole = played(row, sound, pedal=pedal)
            for cut in (0, 1, 29, 59, 60):
                first, between = played(row[:cut], sound[:cut], pedal=pedal)
                second, behind = played(row[cut:], sound[cut:], pedal=between)
                self.assertEqual((first + second, behind), whole)

    def test_against_a_model(self):
        chance = random.Random(52)
        for turn in range(60):
            pedal = chance_pedal(chance) if turn % 2 else empty_pedal(chance.randint(1, 4))
            row = chance_row(chance, len(pedal), 70)
            sound = chance_sound(chance, 70)
            models = models_of(pedal)
            told = play(models, row, sound)
            self.assertEqual(played(row, sound, pedal=pedal), (tuple(told), pedal_of(models)))

    def test_against_presses_and_ticks(self):
        chance = random.Random(53)
        for turn in range(20):
            pedal = chance_pedal(chance)
            row = chance_row(chance, len(pedal), 40)
            sound = chance_sound(chance, 40)
            told = played(row, sound, pedal=pedal)
            heard = []
            for step, sample in zip(row, sound):
                for press in step:
                    pedal = pressed(pedal, press)
                once, pedal = ticked(pedal, sample)
                heard.append(once)
            self.assertEqual(told, (tuple(heard), pedal))

    def test_long_rows_in_a_short_time(self):
        chance = random.Random(54)
        begun = time.process_time()
        for turn in range(20):
            row = tuple(tuple(chance.choice(presses_of(4)) for press in range(8)) for step in range(200))
            pedal = chance_pedal(chance, 4)
            heard, behind = played(row, (1,) * 200, pedal=pedal)
            self.assertEqual(len(heard), 200)
            self.assertIs(need_pedal(behind), behind)
        # Far more than it takes, so that a slow machine does not fail it.
        self.assertLess(time.process_time() - begun, 10)

    def test_great_samples(self):
        row = (TAPPED, (), TAPPED, ())
        self.assertEqual(played(row, (GREAT, -GREAT, 0, 0))[0], (0, 0, GREAT, -GREAT))

    def test_what_is_no_sound(self):
        for sound in NO_SOUNDS:
            self.refuse(OutOfPlace, lambda: played(EXAMPLE, sound))
        for wrong in NO_INTEGERS:
            for at in (0, 5, 9):
                sound = SAMPLES[:at] + (wrong,) + SAMPLES[at + 1:]
                self.refuse(OutOfPlace, lambda: played(EXAMPLE, sound))
        self.refuse(OutOfPlace, lambda: played((), (0,)))
        self.refuse(OutOfPlace, lambda: played((), []))

    def test_no_rows(self):
        for row, place in NO_ROWS:
            self.refuse(BadRow, lambda: played(row, (0,)), place=place)
            self.refuse(BadRow, lambda: played(row, None, pedal=(playing((1,)),)), place=place)

    def test_the_row_is_one_for_the_tracks_of_the_pedal(self):
        for tracks in range(1, 5):
            pedal = empty_pedal(tracks)
            for press in presses_of(4):
                if press[1] < tracks:
                    self.assertEqual(len(played(((press,),), (0,), pedal=pedal)[1]), tracks)
                else:
                    self.refuse(BadRow, lambda: played(((press,),), (0,), pedal=pedal), place=(0, 0))

    def test_the_pedal_is_refused_first(self):
        for pedal, place in NO_PEDALS:
            for row, sound in ((EXAMPLE, SAMPLES), (None, SAMPLES), (EXAMPLE, None), (None, None)):
                self.refuse(BadPedal, lambda: played(row, sound, pedal=pedal), place=place)

    def test_the_pedal_is_told_by_its_name_alone(self):
        with self.assertRaises(TypeError):
            played((), (), (EMPTY,))


class Rounds(Refusals):
    def test_nothing_is_heard(self):
        still = ("stop", ((5, 7),), (), 0, 1, 2, 1, False)
        for pedal in ((EMPTY,), (EMPTY,) * 4, (still,), (playing((5, 7), muted=True), still, EMPTY)):
            self.assertEqual(rounds(pedal), (0, ()))

    def test_each_pace_and_way(self):
        for way, pace, point, told in (
            (1, 1, 0, (1, 1, 2, 2, 3, 3)), (1, 2, 0, (1, 2, 3)), (1, 4, 0, (1, 3, 2)),
            (-1, 1, 0, (1, 3, 3, 2, 2, 1)), (-1, 2, 0, (1, 3, 2)), (-1, 4, 0, (1, 2, 3)),
            (1, 1, 5, (3, 1, 1, 2, 2, 3)), (1, 2, 5, (3, 1, 2)), (1, 4, 3, (2, 1, 3)), (-1, 2, 3, (2, 1, 3)),
        ):
            for mode in ("play", "dub"):
                for sign in (1, -1):
                    track = playing((1, 2, 3), point, way, pace, sign, False, mode)
                    signed = tuple(sign * thing for thing in told)
                    self.assertEqual(rounds((track,)), (0, (signed,)))

    def test_how_many_things_a_round_has(self):
        for length in range(1, 65):
            for pace, many in ((1, 2 * length), (2, length), (4, length if length % 2 else length // 2)):
                cells = tuple(range(length))
                for point in (0, 2 * length - 1):
                    settled, rows = rounds((playing(cells, point, 1, pace),))
                    self.assertEqual((settled, len(rows)), (0, 1))
                    self.assertEqual(len(rows[0]), many)
        self.assertEqual(len(rounds((playing((0,) * 64, 0, -1, 1),))[1][0]), 128)

    def test_only_tracks_that_are_heard_in_their_order(self):
        one, other = playing((1, 2)), playing((3,), sign=-1)
        still = ("stop", ((5, 7),), (), 0, 1, 2, 1, False)
        muted = playing((9,), muted=True)
        self.assertEqual(rounds((one, other)), (0, ((1, 2), (-3,))))
        self.assertEqual(rounds((other, one)), (0, ((-3,), (1, 2))))
        self.assertEqual(rounds((muted, other, still, one)), (0, ((-3,), (1, 2))))
        self.assertEqual(rounds((one, EMPTY, one, one)), (0, ((1, 2),) * 3))

    def test_layers_are_summed_and_what_is_undone_is_not(self):
        track = ("play", ((1, 2), (10, 20)), ((100, 200),), 0, 1, 2, -1, False)
        self.assertEqual(rounds((track,)), (0, ((-11, -22),)))

    def test_what_still_records(self):
        for cells in range(64):
            kept = tuple(range(1, cells + 1))
            told = rounds((recording(kept),))
            self.assertEqual(told, (64 - cells, (kept + (0,) * (64 - cells),)))
        self.assertEqual(rounds((recording((1,) * 60), recording((2,) * 63))), (4, (
            (1,) * 60 + (0,) * 4,
            # It has played 3 of its cells then.
            (2,) * 60 + (0,) + (2,) * 3,
        )))

    def test_others_go_on_while_one_records(self):
        track = playing((1, 2, 3, 4, 5), 1, -1, 1)
        settled, rows = rounds((recording((0,) * 61), track))
        told, behind = heard_by_ticks((track,), 3)
        self.assertEqual(settled, 3)
        self.assertEqual(rows[1], rounds(behind)[1][0])
        self.assertEqual(rounds((playing((1,), muted=True), recording(()))), (64, ((0,) * 64,)))

    def test_settled_tick_by_tick(self):
        chance = random.Random(55)
        waited = 0
        for turn in range(80):
            pedal = chance_pedal(chance)
            settled, rows = rounds(pedal)
            behind, ticks = pedal, 0
            while any(track[0] == "record" for track in behind):
                behind = ticked(behind, 0)[1]
                ticks += 1
            self.assertEqual(settled, ticks)
            waited += settled > 0
            heard = [track for track in behind if track[0] in ("play", "dub") and not track[7]]
            self.assertEqual(len(rows), len(heard))
            for track, row in zip(heard, rows):
                once, back = heard_by_ticks((track,), len(row))
                self.assertEqual(row, tuple(once))
                self.assertEqual(back, (track,))
                for ticks in range(1, len(row)):
                    self.assertNotEqual(heard_by_ticks((track,), ticks)[1], (track,))
        self.assertGreater(waited, 20)

    def test_kinds_of_results(self):
        told = rounds((recording((1,)), playing((1, 2))))
        self.assertIs(type(told), tuple)
        self.assertIs(type(told[0]), int)
        self.assertIs(type(told[1]), tuple)
        self.assertEqual({type(row) for row in told[1]}, {tuple})
        self.assertEqual({type(thing) for row in told[1] for thing in row}, {int})

    def test_no_pedals(self):
        for pedal, place in NO_PEDALS:
            self.refuse(BadPedal, lambda: rounds(pedal), place=place)


class LaterAt(Refusals):
    def test_by_hand(self):
        pedal = (playing((5, 7)), playing((30, 40, 50), 0, -1, 2, -1))
        self.assertEqual([later_at(pedal, tick) for tick in range(6)], [-25, -43, -35, -23, -45, -33])
        self.assertEqual(later_at((EMPTY,), 0), 0)
        self.assertEqual(later_at((EMPTY,), 10 ** 30), 0)

    def test_tick_by_tick(self):
        chance = random.Random(56)
        for turn in range(60):
            pedal = chance_pedal(chance)
            told = wait(models_of(pedal), 300)
            self.assertEqual([later_at(pedal, tick) for tick in range(0, 300, 7)], told[::7])
            for tick in (0, 1, 62, 63, 64, 65, 66):
                self.assertEqual(later_at(pedal, tick), told[tick])

    def test_far_ticks_in_a_short_time(self):
        chance = random.Random(57)
        begun = time.process_time()
        for turn in range(40):
            pedal = chance_pedal(chance, 4)
            settled, rows = rounds(pedal)
            together = math.lcm(*[len(row) for row in rows])
            for tick in (10 ** 30, 10 ** 30 - 1, 10 ** 18 + turn, 10 ** 9):
                near = settled + (tick - settled) % together
                self.assertEqual(later_at(pedal, tick), sum(row[(tick - settled) % len(row)] for row in rows))
                self.assertEqual(later_at(pedal, tick), later_at(pedal, near))
        # Far more than it takes, so that a slow machine does not fail it.
        self.assertLess(time.process_time() - begun, 10)

    def test_wrong_ticks(self):
        for tick in NO_INTEGERS + BEYOND_TICKS:
            self.refuse(OutOfPlace, lambda: later_at((EMPTY,), tick))
            self.refuse(OutOfPlace, lambda: later_at((playing((1,)), recording(())), tick))

    def test_the_pedal_is_refused_first(self):
        for pedal, place in NO_PEDALS:
            for tick in (0, None, -1):
                self.refuse(BadPedal, lambda: later_at(pedal, tick), place=place)
                self.refuse(BadPedal, lambda: later_at(tick=tick, pedal=pedal), place=place)


class FirstParting(Refusals):
    def test_heard_alike_for_ever(self):
        one = playing((1, 2))
        for other in (
            (playing((1, 2, 1, 2)),), (playing((1, 2) * 32),), (playing((1, 1, 2, 2), pace=4),),
            (playing((2, 1), point=2, way=-1),), (playing((-1, -2), sign=-1),), (one, EMPTY), (EMPTY, EMPTY, one),
            (one, playing((7, 7), muted=True)), (playing((4, 5)), playing((3,), sign=-1)), (one, playing((0, 0, 0))),
        ):
            self.assertIsNone(first_parting((one,), other))
            self.assertIsNone(first_parting(other, (one,)))

    def test_part_at_once_or_soon(self):
        self.assertEqual(first_parting((playing((1, 2)),), (playing((2, 2)),)), 0)
        self.assertEqual(first_parting((playing((1, 2)),), (playing((1, 3)),)), 1)
        self.assertEqual(first_parting((playing((1, 1, 1, 2)),), (playing((1,)),)), 3)
        self.assertEqual(first_parting((EMPTY,), (playing((0,) * 63 + (1,), pace=1),)), 126)
        self.assertEqual(first_parting((EMPTY,), (playing((0,) * 63 + (1,), muted=True),)), None)

    def test_part_late(self):
        # The same up to the tick 125; 126 is the SPAN of the LENGTHS 63 and 64.
        one, other = playing((0,) * 62 + (1,)), playing((0,) * 62 + (1, 0))
        self.assertEqual(first_parting((one,), (other,)), 125)
        self.assertEqual(first_parting((other,), (one, EMPTY)), 125)
        # With the half pace each thing is heard twice.
        self.assertEqual(first_parting((one[:5] + (1,) + one[6:],), (other[:5] + (1,) + other[6:],)), 250)

    def test_part_behind_the_records(self):
        for cells in range(64):
            late = recording((0,) * cells + (1,) * (cells < 63))
            self.assertEqual(first_parting((late,), (EMPTY,)), 64 - 1 if cells < 63 else None)
        one, other = recording((3,) * 20), recording((3,) * 21)
        # At the tick 43 one is heard from its beginning on; the other one a tick later.
        self.assertEqual(first_parting((one,), (other,)), 43)
        self.assertEqual(first_parting((one,), (playing((0,)),)), 44)

    def test_with_different_settled_ticks(self):
        long = playing(tuple([3] * 20 + [0] * 44))
        self.assertEqual(first_parting((recording((3,) * 20),), (long,)), 0)
        silent = playing((0,) * 64)
        self.assertIsNone(first_parting((recording((0,) * 20),), (silent,)))
        self.assertIsNone(first_parting((silent, recording((0,) * 9)), (recording((0,) * 20), EMPTY, EMPTY)))

    def test_against_ticks(self):
        chance = random.Random(58)
        apart = []
        for turn in range(150):
            one = chance_pedal(chance, None, 6, None, 1)
            other = chance_pedal(chance, None, 6, None, 1)
            if turn % 3 == 0:
                # The same, led round otherwise.
                other = one[::-1] + (EMPTY,) * (4 - len(one))
            left, right = wait(models_of(one), 500), wait(models_of(other), 500)
            ticks = [tick for tick in range(500) if left[tick] != right[tick]]
            self.assertEqual(first_parting(one, other), ticks[0] if ticks else None)
            apart += ticks[:1]
        self.assertGreater(len(apart), 60)
        self.assertLess(len(apart), 120)
        self.assertGreater(max(apart), 60)

    def test_eight_long_rounds_in_a_short_time(self):
        begun = time.process_time()
        lengths = (64, 63, 61, 59)
        chance = random.Random(59)
        one = tuple(playing(chance_sound(chance, length), pace=1) for length in lengths)
        self.assertIsNone(first_parting(one, one[::-1]))
        for at, track in enumerate(one):
            cells = track[1][0]
            other = playing(cells[:-1] + (cells[-1] + 1,), pace=1)
            tick = 2 * len(cells) - 2
            self.assertEqual(first_parting(one, one[:at] + (other,) + one[at + 1:]), tick)
        # Far more than it takes, so that a slow machine does not fail it.
        self.assertLess(time.process_time() - begun, 10)

    def test_refused_from_left_to_right(self):
        for pedal, place in NO_PEDALS:
            self.refuse(BadPedal, lambda: first_parting(pedal, (EMPTY,)), place=place)
            self.refuse(BadPedal, lambda: first_parting((EMPTY,), pedal), place=place)
            self.refuse(BadPedal, lambda: first_parting(pedal, (EMPTY,) * 3 + (None,)), place=place)
            self.refuse(BadPedal, lambda: first_parting((EMPTY,) * 3 + (None,), pedal), place=(3,))
            self.refuse(BadPedal, lambda: first_parting(other=(EMPTY,) * 3 + (None,), one=pedal), place=place)


class Calls(Refusals):
    def test_by_name(self):
        self.assertEqual(need_row(thing=EXAMPLE, tracks=1), EXAMPLE)
        self.assertEqual(played(sound=SAMPLES, pedal=(EMPTY,), row=EXAMPLE)[0], HEARD)
        self.assertEqual(later_at(tick=1, pedal=(playing((1, 2)),)), 2)
        self.assertEqual(rounds(pedal=(playing((1, 2)),)), (0, ((1, 2),)))
        self.assertEqual(first_parting(other=(EMPTY,), one=(playing((0, 2)),)), 1)

    def test_kinds_of_results(self):
        told = played(EXAMPLE, SAMPLES)
        self.assertEqual([type(part) for part in told], [tuple, tuple])
        self.assertEqual({type(thing) for thing in told[0]}, {int})
        self.assertIs(type(later_at((EMPTY,), 5)), int)
        self.assertIs(type(first_parting((EMPTY,), (playing((1,)),))), int)

    def test_equal_calls_tell_the_same_and_change_nothing(self):
        chance = random.Random(60)
        for turn in range(20):
            pedal, other = chance_pedal(chance), chance_pedal(chance)
            row = chance_row(chance, len(pedal), 30)
            sound = chance_sound(chance, 30)
            kept = copy.deepcopy((pedal, other, row, sound))
            for call in (
                lambda: played(row, sound, pedal=pedal), lambda: later_at(pedal, 77), lambda: rounds(pedal),
                lambda: first_parting(pedal, other), lambda: need_row(len(pedal), row),
            ):
                self.assertEqual(call(), call())
            self.assertEqual((pedal, other, row, sound), kept)

    def test_what_is_refused_is_not_changed(self):
        row, sound = [[TAP]], [0]
        self.refuse(BadRow, lambda: need_row(1, row), place=())
        self.refuse(BadRow, lambda: played(row, sound), place=())
        self.refuse(OutOfPlace, lambda: played((TAPPED,), sound))
        self.assertEqual((row, sound), ([[TAP]], [0]))


if __name__ == "__main__":
    unittest.main()
