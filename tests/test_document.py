"""The whole document once more, point by point and name by name, over all modules."""

import copy
import itertools
import math
import random
import unittest

from pedalrounds import errors
from pedalrounds.alike import first_apart, period, silent
from pedalrounds.desk import Desk
from pedalrounds.errors import (
    BadLengths, BadLoops, BadPaper, BadPedal, BadRow, BadText, Nothing, OutOfPlace, TooGreat,
)
from pedalrounds.fits import check_fit, deceiver, fit
from pedalrounds.live import Live
from pedalrounds.loops import heard, heard_row, later, lengths_of, need_loops
from pedalrounds.meetings import check_meeting, meeting
from pedalrounds.pedals import EMPTY, empty_pedal, is_idle, need_pedal, pressed, ticked
from pedalrounds.plays import first_parting, later_at, need_row, played, rounds
from pedalrounds.shares import parting, shares
from pedalrounds.spans import carried, need_lengths, span, weights
from pedalrounds.texts import read_row, row_text
from pedalrounds.told import all_told, check_told, told_back
from pedalrounds.twins import are_twins, plain
from pedalrounds.ways import hushed, way_to
from models import chance_pedal, chance_row, chance_sound, presses_of, wait, models_of
from wrongs import GREAT, TAP, Refusals

TAPPED = (TAP,)
LOOPS = ((5, -1), (7, 0, 2))
ROW = (TAPPED, (), TAPPED, TAPPED, (("undo", 0), ("pace", 0, 4)))
SOUND = (5, 7, 1, 2, 0)
PEDAL = (("play", ((5, 7, 1), (0, 2, 2)), ((1, 1, 1),), 3, -1, 1, -1, False),)
OTHER = (("play", ((5, 7, 2),), (), 3, 1, 1, 1, False),)

# Each function with its arguments in their order, as they may be, and the error for what is none of them.
CALLS = (
    (need_loops, (("thing", LOOPS, BadLoops),)),
    (lengths_of, (("loops", LOOPS, BadLoops),)),
    (heard, (("loops", LOOPS, BadLoops), ("tick", 7, OutOfPlace))),
    (heard_row, (("loops", LOOPS, BadLoops), ("tick", 7, OutOfPlace), ("many", 4, OutOfPlace))),
    (later, (("loops", LOOPS, BadLoops), ("ticks", 10 ** 30, OutOfPlace))),
    (need_lengths, (("thing", (2, 3), BadLengths),)),
    (span, (("lengths", (2, 3), BadLengths),)),
    (weights, (("lengths", (2, 3), BadLengths),)),
    (carried, (("lengths", (2, 3), BadLengths), ("row", (5, 0, 0, 7), OutOfPlace), ("many", 3, OutOfPlace))),
    (fit, (("lengths", (2, 3), BadLengths), ("row", (5, 0, 0, 7, 1), OutOfPlace))),
    (check_fit, (
        ("lengths", (2, 3), BadLengths), ("row", (5, 0, 0, 7, 9), OutOfPlace),
        ("paper", ("none", (-1, -1, 0, 1, 1)), BadPaper),
    )),
    (deceiver, (("lengths", (2, 3), BadLengths),)),
    (first_apart, (("one", LOOPS, BadLoops), ("other", ((1,),), BadLoops))),
    (period, (("loops", LOOPS, BadLoops),)),
    (silent, (("loops", LOOPS, BadLoops),)),
    (meeting, (("lengths", (2, 3), BadLengths), ("places", (1, 0), OutOfPlace))),
    (check_meeting, (("lengths", (2, 3), BadLengths), ("places", (1, 0), OutOfPlace), ("paper", ("tick", 3), BadPaper))),
    (need_pedal, (("thing", PEDAL, BadPedal),)),
    (empty_pedal, (("tracks", 3, OutOfPlace),)),
    (pressed, (("pedal", PEDAL, BadPedal), ("press", TAP, OutOfPlace))),
    (is_idle, (("pedal", PEDAL, BadPedal), ("press", TAP, OutOfPlace))),
    (ticked, (("pedal", PEDAL, BadPedal), ("sample", 3, OutOfPlace))),
    (need_row, (("tracks", 1, OutOfPlace), ("thing", ROW, BadRow))),
    (played, (("row", ROW, BadRow), ("sound", SOUND, OutOfPlace))),
    (later_at, (("pedal", PEDAL, BadPedal), ("tick", 7, OutOfPlace))),
    (rounds, (("pedal", PEDAL, BadPedal),)),
    (first_parting, (("one", PEDAL, BadPedal), ("other", OTHER, BadPedal))),
    (shares, (("tracks", 1, OutOfPlace), ("row", ROW, BadRow), ("tick", 7, OutOfPlace))),
    (parting, (("tracks", 1, OutOfPlace), ("one", ROW, BadRow), ("other", ((),) * 5, BadRow))),
    (told_back, (("tracks", 1, OutOfPlace), ("row", ROW, BadRow), ("index", 0, OutOfPlace))),
    (check_told, (
        ("tracks", 1, OutOfPlace), ("row", ROW, BadRow), ("index", 0, OutOfPlace),
        ("paper", ("told", ((2, 1),), 1), BadPaper),
    )),
    (all_told, (("tracks", 1, OutOfPlace), ("row", ROW, BadRow))),
    (plain, (("pedal", PEDAL, BadPedal),)),
    (are_twins, (("one", PEDAL, BadPedal), ("other", OTHER, BadPedal))),
    (hushed, (("tracks", 1, OutOfPlace), ("row", ROW, BadRow))),
    (way_to, (("track", PEDAL[0], OutOfPlace), ("goal", ("play", ((5, 9, 3),), ()) + PEDAL[0][3:], OutOfPlace))),
    (row_text, (("row", ROW, BadRow),)),
    (read_row, (("text", "tap 0\n-", BadText),)),
    (Live, (("tracks", 2, OutOfPlace),)),
    (Desk, (("tracks", 2, OutOfPlace),)),
)
# None of them is any argument of CALLS, of whatever kind.
WRONG = (True, False, None, 1.5, b"look", [], [TAP], {}, set(), object(), (None,))
ERRORS = (
    (BadLoops, ValueError), (BadLengths, ValueError), (BadPedal, ValueError), (BadRow, ValueError), (BadPaper, ValueError),
    (BadText, ValueError), (OutOfPlace, ValueError), (TooGreat, OverflowError), (Nothing, LookupError),
)


def in_lists(thing):
    """The thing with a list in the place of one of its tuples, for each of them."""
    if not isinstance(thing, tuple):
        return []
    inner = [
        thing[:at] + (other,) + thing[at + 1:] for at, part in enumerate(thing) for other in in_lists(part)
    ]
    return [list(thing)] + inner


def with_bools(thing):
    """The thing with True in the place of one of its integers, for each of them."""
    if isinstance(thing, int) and not isinstance(thing, bool):
        return [True]
    if not isinstance(thing, tuple):
        return []
    return [thing[:at] + (other,) + thing[at + 1:] for at, part in enumerate(thing) for other in with_bools(part)]


def result(value):
    """What can be compared of a result."""
    if isinstance(value, Desk):
        value = value.live
    return (value.pedal, value.row, value.sound, value.heard) if isinstance(value, Live) else value


class Point1(Refusals):
    def test_by_position_and_by_names(self):
        for call, arguments in CALLS:
            told = result(call(*[thing for name, thing, error in arguments]))
            named = {name: thing for name, thing, error in reversed(arguments)}
            self.assertEqual(result(call(**named)), told, call)

    def test_equal_calls_tell_the_same_and_change_no_argument(self):
        for call, arguments in CALLS:
            things = [thing for name, thing, error in arguments]
            kept = copy.deepcopy(things)
            told = result(call(*things))
            self.assertEqual(result(call(*kept)), told, call)
            self.assertEqual(repr(things), repr(kept), call)

    def test_an_argument_of_any_kind_is_refused(self):
        for call, arguments in CALLS:
            things = [thing for name, thing, error in arguments]
            for at, (name, thing, error) in enumerate(arguments):
                for wrong in WRONG:
                    self.refuse(error, lambda: call(*things[:at], wrong, *things[at + 1:]))

    def test_lists_are_no_tuples_at_any_depth(self):
        for call, arguments in CALLS:
            things = [thing for name, thing, error in arguments]
            for at, (name, thing, error) in enumerate(arguments):
                for wrong in in_lists(thing):
                    self.refuse(error, lambda: call(*things[:at], wrong, *things[at + 1:]))

    def test_true_and_false_are_no_integers_at_any_depth(self):
        for call, arguments in CALLS:
            things = [thing for name, thing, error in arguments]
            for at, (name, thing, error) in enumerate(arguments):
                for wrong in with_bools(thing):
                    self.refuse(error, lambda: call(*things[:at], wrong, *things[at + 1:]))

    def test_arguments_are_checked_from_left_to_right(self):
        for call, arguments in CALLS:
            things = [thing for name, thing, error in arguments]
            for at, (name, thing, error) in enumerate(arguments):
                for wrong, other in itertools.product(WRONG[:4], repeat=2):
                    behind = [other for one in things[at + 1:]]
                    self.refuse(error, lambda: call(*things[:at], wrong, *behind))
                    named = dict(zip([one[0] for one in arguments], things[:at] + [wrong] + behind))
                    self.refuse(error, lambda: call(**dict(reversed(named.items()))))

    def test_those_by_keyword_behind_the_others(self):
        self.refuse(OutOfPlace, lambda: Live(pedal=7, tracks=0))
        self.refuse(BadPedal, lambda: Live(2, pedal=7))
        # But for the PEDAL of played, which is checked first.
        self.refuse(BadPedal, lambda: played(7, 7, pedal=7))

    def test_results_are_tuples_all_the_way_down(self):
        for call, arguments in CALLS:
            told = [result(call(*[thing for name, thing, error in arguments]))]
            while told:
                self.assertTrue({type(thing) for thing in told} <= {tuple, int, str, bool, type(None)}, call)
                told = [part for thing in told if isinstance(thing, tuple) for part in thing]

    def test_a_call_for_which_no_result_is_told(self):
        live = Live()
        live(1)
        self.assertIsNone(live.back())

    def test_integers_of_1000_digits(self):
        loops = ((GREAT, -GREAT), (1, 2, GREAT))
        self.assertEqual(heard(loops, 5), 0)
        row = heard_row(loops, 0, 4)
        self.assertEqual(carried((2, 3), row, 50), heard_row(loops, 4, 50))
        paper = fit((2, 3), heard_row(loops, 0, 60))
        self.assertEqual(check_fit((2, 3), heard_row(loops, 0, 60), paper), "loops")
        # What was told is passed on.
        self.assertEqual(first_apart(paper[1], loops), None)
        told, pedal = played(ROW, (GREAT,) * 5)
        self.assertEqual(played(ROW, told, pedal=pedal)[0][0], later_at(pressed(pedal, TAP), 0))
        self.assertEqual(way_to(pedal[0], EMPTY), (("clear", 0),))

    def test_each_error_stands_straight_under_its_own(self):
        for error, base in ERRORS:
            self.assertEqual(error.__bases__, (base,))
            self.assertEqual(error.__module__, errors.__name__)


class Loops(Refusals):
    def test_point_2(self):
        self.assertEqual(heard_row(LOOPS, 0, 6), (12, -1, 7, 6, 5, 1))
        self.assertEqual([heard((), tick) for tick in (0, 10 ** 30)], [0, 0])
        self.assertEqual(lengths_of(LOOPS), (2, 3))
        self.assertEqual(heard(later(LOOPS, 10 ** 30), 3), heard(LOOPS, (10 ** 30 + 3) % 6))

    def test_point_3(self):
        self.assertEqual([span(lengths) for lengths in ((2, 3), (4, 6), (6, 10, 15), ())], [4, 8, 22, 0])

    def test_point_4(self):
        self.assertEqual(weights((2, 3)), (-1, -1, 0, 1, 1))
        self.assertEqual(carried((2, 3), (5, 0, 0, 7), 1), (-2,))
        self.assertEqual(weights(()), (1,))

    def test_points_5_and_6(self):
        for row in ((5, 0, 0, 7, -2), (5, 0, 0, 7, 0)):
            word, thing = fit((2, 3), row)
            self.assertEqual(word, "loops" if row[4] == -2 else "none")
            self.assertEqual(check_fit((2, 3), row, (word, thing)), word)
        told = heard_row(deceiver((6, 10, 15)), 0, 22)
        self.assertEqual(told, (0,) * 21 + (1,))

    def test_point_7(self):
        self.assertIsNone(first_apart(((1, 2), (3, 4, 5, 4, 3, 5)), ((4, 6, 6, 6, 4, 7),)))
        self.assertEqual(period(((1, 2, 3, 4), (4, 3, 2, 1))), 1)
        self.assertEqual(period(((0, 1), (1, 0, 0))), 6)
        self.assertEqual(period(()), 1)
        self.assertIs(silent(((1, -1), (-1, 1))), True)

    def test_point_8(self):
        self.assertEqual(meeting((), ()), ("tick", 0))
        self.assertEqual(meeting((4, 6), (0, 1)), ("never", 0, 1))
        self.assertEqual(meeting((2, 3), (1, 0)), ("tick", 3))

    def test_loops_and_rounds(self):
        # What is heard LATER is heard of loops, so all that is told of loops holds of it.
        chance = random.Random(131)
        for turn in range(30):
            pedal = chance_pedal(chance, chance.randint(1, 3), 30, "play", 3)
            pedal = tuple(track[:5] + (chance.choice((2, 4)),) + track[6:] for track in pedal)
            settled, rows = rounds(pedal)
            self.assertEqual(settled, 0)
            self.assertIs(need_loops(rows), rows)
            for tick in (0, 1, 99, 10 ** 30):
                self.assertEqual(heard(rows, tick), later_at(pedal, tick))
            samples = tuple(later_at(pedal, tick) for tick in range(span(lengths_of(rows)) + 20))
            many = span(lengths_of(rows))
            self.assertEqual(carried(lengths_of(rows), samples[:many], 20), samples[many:])
            again = wait(models_of(pedal), 2 * math.lcm(*lengths_of(rows)) if len(rows) == 1 else 60)
            self.assertEqual(tuple(again), heard_row(rows, 0, len(again)))
            other = (EMPTY,) + pedal[::-1]
            self.assertEqual(first_parting(pedal, other), first_apart(rows, rounds(other)[1]))
            self.assertEqual(first_parting(pedal, (EMPTY,)) is None, silent(rows))


class Pedals(Refusals):
    def test_points_9_and_10(self):
        self.assertEqual(EMPTY, ("empty", (), (), 0, 1, 2, 1, False))
        for tracks in range(1, 5):
            pedal = empty_pedal(tracks)
            for press in presses_of(tracks):
                self.assertIs(is_idle(pedal, press), press[0] != "tap")
                self.assertIs(need_pedal(pressed(pedal, press)) == pedal, press[0] != "tap")

    def test_points_11_and_12(self):
        row = (TAPPED, (), TAPPED, TAPPED) + ((),) * 4
        told = (0, 0, 5, 7, 5, 9, 5, 9)
        sound = (5, 7, 1, 2, 0, 0, 0, 0)
        self.assertEqual(played(row, sound)[0], told)
        pedal, live, desk = (EMPTY,), Live(), Desk()
        for step, sample, expected in zip(row, sound, told):
            for press in step:
                pedal = pressed(pedal, press)
                live.press(*press)
                desk.say("tap 0")
            once, pedal = ticked(pedal, sample)
            self.assertEqual((once, live(sample), desk.say(f"take {sample}")), (expected, expected, str(expected)))
        self.assertEqual((live.pedal, desk.live.pedal, played(row, sound)[1]), (pedal,) * 3)

    def test_point_13(self):
        self.assertEqual(rounds((("record", ((5, 7),), (), 0, 1, 2, 1, False),)), (62, ((5, 7) + (0,) * 62,)))
        self.assertEqual(rounds(PEDAL), (0, ((-9, -9, -5, -5, -3, -3),)))
        self.assertEqual(rounds((EMPTY,)), (0, ()))

    def test_point_17(self):
        one = (("play", ((5,),), (), 1, -1, 4, 1, False),)
        self.assertEqual(plain(one), (("play", ((5,),), (), 0, 1, 2, 1, False),))
        self.assertIs(are_twins(one, plain(one)), True)
        self.assertIs(are_twins(PEDAL, OTHER), False)
        self.assertEqual(plain(PEDAL), PEDAL)
        # TWINS have the same ways and are heard alike LATER; not all that are heard alike LATER are TWINS.
        self.assertIsNone(first_parting(one, plain(one)))
        self.assertIsNone(first_parting(one, (("play", ((5, 5),), (), 1, -1, 4, 1, False),)))

    def test_point_19(self):
        self.assertEqual(way_to(EMPTY, EMPTY), ())
        self.assertEqual(way_to(PEDAL[0], ("play", ((5, 9, 3),), ()) + PEDAL[0][3:]), (("join", 0),))
        self.assertIsNone(way_to(EMPTY, PEDAL[0]))


class Rows(Refusals):
    def test_point_14(self):
        chance = random.Random(132)
        for turn in range(20):
            row, sound = chance_row(chance, 2, 20), chance_sound(chance, 20)
            told, behind = played(row, sound, pedal=empty_pedal(2))
            for tick in range(60):
                total = sum(share * sample for share, sample in zip(shares(2, row, tick), sound))
                self.assertEqual(total, told[tick] if tick < 20 else later_at(behind, tick - 20))

    def test_point_15(self):
        chance = random.Random(133)
        for turn in range(40):
            one, other = chance_row(chance, 1, 5, 2), chance_row(chance, 1, 5, 2)
            told = parting(1, one, other)
            self.assertEqual(told, parting(1, other, one))
            for tick in range(160):
                left, right = shares(1, one, tick), shares(1, other, tick)
                if left != right:
                    index = [at for at in range(5) if left[at] != right[at]][0]
                    self.assertEqual(told, (tick, index))
                    break
            else:
                self.assertIsNone(told)

    def test_point_16(self):
        row = (TAPPED, TAPPED)
        self.assertEqual(check_told(1, row, 0, ("told", ((1, 1),), 1)), "told")
        self.assertEqual(check_told(1, row, 1, ("hidden", (0, 1))), "hidden")
        self.assertEqual([told_back(1, row, index)[0] for index in (0, 1)], ["told", "hidden"])
        self.assertEqual(all_told(3, ((),) * 30), ())

    def test_point_18(self):
        chance = random.Random(134)
        for turn in range(20):
            row = chance_row(chance, 3, 30, 5, 2)
            told = hushed(3, row)
            self.assertIsNone(parting(3, row, told))
            self.assertEqual(all_told(3, row), all_told(3, told))

    def test_point_20(self):
        self.assertEqual(row_text(ROW), "tap 0\n-\ntap 0\ntap 0\nundo 0, pace 0 4")
        self.assertEqual(read_row(row_text(ROW)), ROW)
        self.assertEqual((row_text(()), read_row("")), ("", ()))
        self.refuse(BadText, lambda: read_row("tap 0\ntap 0, tap"), line=2, word=2)
        self.refuse(BadText, lambda: read_row("-\n" * 200), line=201, word=0)
        self.refuse(BadText, lambda: read_row(7), line=0, word=0)

    def test_too_great(self):
        for many in (30, 31, 60, 61, 200):
            row = ((),) * many
            for most, call in (
                (60, lambda: shares(1, row, 0)), (60, lambda: parting(1, row, row)), (30, lambda: all_told(1, row)),
                (30, lambda: told_back(1, row, 0)), (30, lambda: check_told(1, row, 0, ("hidden", (1,) + (0,) * (many - 1)))),
            ):
                if many > most:
                    self.refuse(TooGreat, call, most=most)
                else:
                    call()
            self.assertEqual(hushed(1, row), row)
            self.assertEqual(read_row(row_text(row)), row)
            self.assertEqual(played(row, (0,) * many)[0], (0,) * many)
        self.refuse(TooGreat, lambda: fit((25,), ()), most=24)


class GoesOn(Refusals):
    def test_a_live_against_a_row(self):
        live = Live(2)
        for sample in range(3):
            live.press("tap", sample % 2)
            live(sample)
        self.assertEqual(live.row, ((("tap", 0),), (("tap", 1),), (("tap", 0),)))
        self.assertEqual(played(live.row, live.sound, pedal=empty_pedal(2)), (live.heard, live.pedal))
        self.assertEqual(len(live), 3)
        self.assertTrue(live.copy() == live)
        self.assertEqual(live.then(live).row, live.row * 2)
        self.refuse(Nothing, lambda: live.back(many=4))
        live.back(many=3)
        self.assertTrue(live == Live(2))

    def test_a_desk_against_a_live(self):
        desk = Desk(2)
        self.assertEqual(desk.say("tap 0"), "done")
        self.assertEqual(desk.say("undo 0"), "idle")
        self.assertEqual(desk.say("take 5 7"), "0 0")
        self.assertEqual(desk.say("row"), "tap 0, undo 0; -")
        self.assertEqual(desk.say("told 0"), "told")
        self.assertEqual(desk.say("later 62"), "5")
        self.assertEqual(desk.say("back 3"), "no")
        self.assertEqual(read_row(desk.say("row").replace("; ", "\n")), desk.live.row)
        self.assertEqual(hushed(2, desk.live.row), ((TAP,), ()))


if __name__ == "__main__":
    unittest.main()
