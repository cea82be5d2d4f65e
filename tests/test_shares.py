"""shares.py: points [14] and [15], and point [1] as far as shares.py keeps it."""

import copy
import random
import time
import unittest

from pedalrounds.errors import BadRow, OutOfPlace, TooGreat
from pedalrounds.pedals import empty_pedal
from pedalrounds.plays import later_at, played
from pedalrounds.shares import parting, shares
from models import chance_row, chance_sound, heard_of_row, presses_of, shares_by_units
from wrongs import BEYOND_TICKS, GREAT, NO_INTEGERS, NO_NUMBERS_OF_TRACKS, NO_PRESSES, NO_ROWS, TAP, Refusals

TAPPED = (TAP,)
EXAMPLE = (TAPPED, (), TAPPED, TAPPED) + ((),) * 6
LONG = ((),) * 61
ALL_TAPPED = tuple(("tap", number) for number in range(4))


def tapped(*numbers):
    return tuple(("tap", number) for number in numbers)


def parted_by_units(tracks, one, other, ticks):
    """Where two ROWs PART, read off the SHARES at all ticks."""
    pairs = zip(shares_by_units(tracks, one, ticks), shares_by_units(tracks, other, ticks))
    for tick, (left, right) in enumerate(pairs):
        if left != right:
            return tick, [index for index in range(len(one)) if left[index] != right[index]][0]
    return None


class Shares(Refusals):
    def test_the_example_of_point_11(self):
        silent = (0,) * 10
        first = (1,) + (0,) * 9
        second = (0, 1) + (0,) * 8
        self.assertEqual(shares(1, EXAMPLE, 0), silent)
        self.assertEqual(shares(1, EXAMPLE, 1), silent)
        self.assertEqual(shares(1, EXAMPLE, 2), first)
        self.assertEqual(shares(1, EXAMPLE, 3), second)
        # It dubs at the ticks 3, 5, 7 and 9 over the second cell.
        self.assertEqual(shares(1, EXAMPLE, 5), (0, 1, 0, 1, 0, 0, 0, 0, 0, 0))
        self.assertEqual(shares(1, EXAMPLE, 8), (1, 0, 0, 0, 1, 0, 1, 0, 0, 0))
        self.assertEqual(shares(1, EXAMPLE, 9), (0, 1, 0, 1, 0, 1, 0, 1, 0, 0))
        self.assertEqual(shares(1, EXAMPLE, 10 ** 30), (1, 0, 0, 0, 1, 0, 1, 0, 1, 0))
        self.assertEqual(shares(1, EXAMPLE, 10 ** 30 - 1), (0, 1, 0, 1, 0, 1, 0, 1, 0, 1))

    def test_the_row_without_steps_and_rows_without_presses(self):
        for tracks in range(1, 5):
            for tick in (0, 1, 10 ** 30):
                self.assertEqual(shares(tracks, (), tick), ())
                self.assertEqual(shares(tracks, ((),) * 60, tick), (0,) * 60)

    def test_the_bounds_of_a_share(self):
        row = (ALL_TAPPED, ALL_TAPPED, ())
        self.assertEqual(shares(4, row, 1), (4, 0, 0))
        flipped = (ALL_TAPPED, ALL_TAPPED, tuple(("flip", number) for number in range(4)))
        self.assertEqual(shares(4, flipped, 2), (-4, 0, 0))
        half = (ALL_TAPPED, ALL_TAPPED, (("flip", 1), ("flip", 3), ("mute", 0)))
        self.assertEqual(shares(4, half, 2), (-1, 0, 0))
        self.assertEqual(shares(4, half, 10 ** 30), (-1, 0, 0))

    def test_all_shares_at_their_bounds_at_once(self):
        for sign, many in ((1, 60), (-1, 59)):
            # Each TRACK lays all samples over its one cell.
            row = [ALL_TAPPED, ALL_TAPPED + ALL_TAPPED] + [()] * (many - 2)
            if sign < 0:
                row[2] = tuple(("flip", number) for number in range(4))
            self.assertEqual(shares(4, tuple(row), many), (sign * 4,) * many)

    def test_against_sounds_that_are_1_at_one_step_alone(self):
        chance = random.Random(61)
        found = {}
        for turn in range(50):
            tracks = chance.randint(1, 4)
            row = chance_row(chance, tracks, chance.randint(1, 20), 4)
            told = shares_by_units(tracks, row, 150)
            for tick, line in enumerate(told):
                if tick < len(row) + 3 or tick % 7 == 0:
                    self.assertEqual(shares(tracks, row, tick), line)
                    for share in line:
                        found[share] = found.get(share, 0) + 1
        self.assertLess(min(found), 0)
        self.assertGreater(max(found), 1)

    def test_far_ticks_against_sounds_that_are_1_at_one_step_alone(self):
        chance = random.Random(62)
        for turn in range(20):
            tracks = chance.randint(1, 4)
            row = chance_row(chance, tracks, 12, 4)
            for tick in (10 ** 30, 10 ** 30 - turn, 10 ** 12 + turn):
                told = []
                for index in range(12):
                    unit = tuple(int(at == index) for at in range(12))
                    behind = played(row, unit, pedal=empty_pedal(tracks))[1]
                    told.append(later_at(behind, tick - 12))
                self.assertEqual(shares(tracks, row, tick), tuple(told))

    def test_the_sum_of_the_shares_times_the_samples_is_heard(self):
        chance = random.Random(63)
        for turn in range(40):
            tracks = chance.randint(1, 4)
            row = chance_row(chance, tracks, chance.randint(1, 40), 4)
            sound = chance_sound(chance, len(row), 10 ** 12)
            heard = heard_of_row(tracks, row, sound, 100)
            for tick in range(0, len(heard), 3):
                told = shares(tracks, row, tick)
                self.assertEqual(sum(share * sample for share, sample in zip(told, sound)), heard[tick])

    def test_samples_that_come_at_the_tick_or_behind_it_have_the_share_0(self):
        chance = random.Random(64)
        for turn in range(20):
            row = chance_row(chance, 2, 30, 4)
            for tick in range(30):
                told = shares(2, row, tick)
                self.assertEqual(len(told), 30)
                self.assertEqual(told[tick:], (0,) * (30 - tick))

    def test_a_row_that_still_records(self):
        row = (TAPPED,) + ((),) * 9
        for tick in range(64):
            self.assertEqual(shares(1, row, tick), (0,) * 10)
        for tick in range(10):
            expected = tuple(int(at == tick) for at in range(10))
            self.assertEqual(shares(1, row, 64 + tick), expected)
            self.assertEqual(shares(1, row, 64 * 10 ** 20 + tick), expected)
        self.assertEqual(shares(1, row, 74), (0,) * 10)

    def test_rows_of_60_steps_in_a_short_time(self):
        chance = random.Random(65)
        begun = time.process_time()
        for turn in range(40):
            row = tuple(tuple(chance.choice(presses_of(4)) for press in range(8)) for step in range(60))
            for tick in (30, 60, 10 ** 30):
                self.assertEqual(len(shares(4, row, tick)), 60)
        # Far more than it takes, so that a slow machine does not fail it.
        self.assertLess(time.process_time() - begun, 10)

    def test_61_steps_are_too_many(self):
        self.assertEqual(shares(1, LONG[:60], 0), (0,) * 60)
        for row in (LONG, (TAPPED,) * 61, ((),) * 200):
            for tick in (0, -1, None):
                self.refuse(TooGreat, lambda: shares(1, row, tick), most=60)
        self.refuse(BadRow, lambda: shares(1, ((),) * 60 + (None,), 0), place=(60,))
        self.refuse(BadRow, lambda: shares(1, ((),) * 201, 0), place=())

    def test_wrong_ticks(self):
        for tick in NO_INTEGERS + BEYOND_TICKS:
            self.refuse(OutOfPlace, lambda: shares(1, EXAMPLE, tick))
            self.refuse(OutOfPlace, lambda: shares(1, (), tick))

    def test_refused_from_left_to_right(self):
        for row, place in NO_ROWS:
            for tick in (0, -1, None):
                self.refuse(BadRow, lambda: shares(1, row, tick), place=place)
                self.refuse(BadRow, lambda: shares(tick=tick, row=row, tracks=1), place=place)
        for tracks in NO_NUMBERS_OF_TRACKS:
            for row in (EXAMPLE, LONG, None):
                self.refuse(OutOfPlace, lambda: shares(tracks, row, 0))
        for press in NO_PRESSES:
            self.refuse(BadRow, lambda: shares(4, LONG + ((press,),), None), place=(61, 0))

    def test_the_row_is_one_for_so_many_tracks(self):
        for press in presses_of(4):
            for tracks in range(1, 5):
                if press[1] < tracks:
                    self.assertEqual(shares(tracks, ((press,),), 0), (0,))
                else:
                    self.refuse(BadRow, lambda: shares(tracks, ((press,),), 0), place=(0, 0))


class Parting(Refusals):
    def part(self, tracks, one, other, told):
        self.assertEqual(parting(tracks, one, other), told)
        self.assertEqual(parting(tracks, other, one), told)

    def test_rows_that_are_heard_alike(self):
        for row in ((), ((),) * 60, EXAMPLE, (TAPPED,) * 60):
            self.part(1, row, row, None)
        self.part(1, (TAPPED, TAPPED, ()), (TAPPED, (TAP, ("undo", 0)), (("redo", 0),)), None)
        self.part(1, (TAPPED, TAPPED, (("turn", 0),)), (TAPPED, TAPPED, (("pace", 0, 4),)), None)
        self.part(1, (TAPPED, (TAP, TAP), (TAP,)), (TAPPED, (TAP, TAP), (("stop", 0), TAP)), None)
        self.part(2, (tapped(0), tapped(0)), (tapped(1), tapped(1)), None)
        self.part(2, (tapped(0, 1), tapped(0, 1), (("flip", 0),)), (tapped(1, 0), tapped(1, 0), (("flip", 1),)), None)
        self.part(1, ((), (TAP, TAP), ()), ((), (TAP, ("clear", 0)), (("undo", 0),)), None)
        # What was recorded is never heard.
        self.part(1, (TAPPED, (), (("stop", 0),)), ((), (), ()), None)
        self.part(1, (TAPPED, (), (("stop", 0), TAP, ("mute", 0))), ((),) * 3, None)

    def test_rows_that_part_within_them(self):
        self.part(1, (TAPPED, TAPPED), ((), ()), (1, 0))
        self.part(1, (TAPPED, TAPPED, ()), (TAPPED, TAPPED, (("flip", 0),)), (2, 0))
        self.part(1, (TAPPED, (), TAPPED, ()), (TAPPED, (), TAPPED, (("turn", 0),)), None)
        self.part(1, (TAPPED, (), (), TAPPED, (), ()), (TAPPED, (), (), TAPPED, (("turn", 0),), ()), (5, 0))
        half = (TAP, ("turn", 0), ("pace", 0, 1))
        self.part(1, (TAPPED, (), TAPPED, (), ()), (TAPPED, (), half, (), ()), (4, 0))
        self.part(2, (tapped(0, 1), tapped(0, 1)), (tapped(0), tapped(0)), (1, 0))

    def test_rows_that_part_behind_them(self):
        self.part(1, (TAPPED, ()), ((), ()), (64, 0))
        self.part(1, (TAPPED, ()), ((), TAPPED), (64, 0))
        self.part(1, ((), TAPPED), ((), ()), (65, 1))
        self.part(1, (TAPPED, TAPPED), (TAPPED, (TAP, TAP)), (2, 1))
        self.part(1, (TAPPED, (), (), (TAP, TAP)), (TAPPED, (), (), TAPPED), (6, 3))
        self.part(1, (TAPPED, (), (), TAPPED), (TAPPED, (), (), (TAP, ("stop", 0), TAP, ("pace", 0, 1))), (4, 0))

    def test_the_first_index_and_the_first_tick(self):
        row = (TAPPED, (), (TAP, TAP), (), (), (), TAPPED, ())
        # The second and the fourth sample lie in one cell; the second one is heard in both.
        other = (TAPPED, (), (TAP, TAP), TAPPED, (), (), (), ())
        self.part(1, row, other, (5, 3))
        one = (tapped(0, 1), (), tapped(0), ())
        two = (tapped(0), (), tapped(0), ())
        self.part(2, one, two, (64, 0))
        # Both samples lie in the one cell that is heard at once.
        many = (TAPPED, (TAP, TAP), (), ())
        self.part(1, many, ((),) * 4, (1, 0))
        self.part(1, many, (TAPPED, TAPPED, TAPPED, ()), (2, 1))

    def test_of_several_indexes_the_first(self):
        # From the tick 2 on three samples lie in one cell; in the other ROW just the third one.
        one = (TAPPED, (TAP, TAP), (), (("mute", 0),), (("mute", 0),))
        other = ((), (), TAPPED, TAPPED, ())
        self.assertEqual(parted_by_units(1, one, other, 10), (1, 0))
        self.part(1, one, other, (1, 0))
        one = (TAPPED, (TAP, TAP, ("mute", 0)), (), (), (("mute", 0),), ())
        other = (TAPPED, (TAP, ("mute", 0)), (), (), (("mute", 0),), ())
        self.part(1, one, other, (4, 1))

    def test_one_press_less(self):
        chance = random.Random(66)
        late = 0
        for turn in range(120):
            many = chance.randint(4, 10)
            one = chance_row(chance, 2, many, 3)
            place = many - 1 - chance.randrange(2)
            other = one[:place] + (one[place][1:],) + one[place + 1:]
            told = parting(2, one, other)
            self.assertEqual(told, parted_by_units(2, one, other, 330))
            late += told is not None and told[0] >= many
        self.assertGreater(late, 5)

    def test_against_sounds_that_are_1_at_one_step_alone(self):
        chance = random.Random(67)
        alike = within = behind = 0
        for turn in range(120):
            tracks = chance.randint(1, 3)
            many = chance.randint(1, 9)
            one = chance_row(chance, tracks, many, 3)
            other = chance_row(chance, tracks, many, 3)
            told = parting(tracks, one, other)
            self.assertEqual(told, parted_by_units(tracks, one, other, 240))
            alike += told is None
            within += told is not None and told[0] < many
            behind += told is not None and told[0] >= many
        self.assertGreater(min(alike, within, behind), 8)

    def test_long_rounds(self):
        # Two TRACKs that take each other away, and one sample that is dubbed over one of them.
        silent = (tapped(0, 1),) + ((),) * 28 + (tapped(0, 1) + (("flip", 1),),)
        one = silent + ((),) * 20 + (tapped(1), tapped(1)) + ((),) * 8
        other = silent + ((),) * 30
        self.part(2, one, other, (50 + 29, 50))
        half = one[:-1] + ((("pace", 0, 1), ("pace", 1, 1)),)
        self.assertEqual(parting(2, half, other), parted_by_units(2, half, other, 200))
        self.assertGreater(parting(2, half, other)[0], 79)

    def test_unlike_numbers_of_steps(self):
        for one, other in (((), ((),)), (((),), ()), (((),) * 59, ((),) * 60), (EXAMPLE, EXAMPLE + ((),))):
            self.refuse(OutOfPlace, lambda: parting(1, one, other))

    def test_rows_of_60_steps_in_a_short_time(self):
        chance = random.Random(68)
        begun = time.process_time()
        for turn in range(20):
            row = chance_row(chance, 4, 60, 8)
            self.assertIsNone(parting(4, row, row))
            self.assertEqual(len(parting(4, row, (ALL_TAPPED, ALL_TAPPED) + row[2:]) or (0, 0)), 2)
        # Far more than it takes, so that a slow machine does not fail it.
        self.assertLess(time.process_time() - begun, 10)

    def test_refused_from_left_to_right(self):
        for row, place in NO_ROWS:
            for right in (EXAMPLE, (), LONG, ((None,),), None):
                self.refuse(BadRow, lambda: parting(1, row, right), place=place)
                self.refuse(BadRow, lambda: parting(other=right, one=row, tracks=1), place=place)
            for left in (EXAMPLE, (), ((),) * 60):
                self.refuse(BadRow, lambda: parting(1, left, row), place=place)
            self.refuse(TooGreat, lambda: parting(1, LONG, row), most=60)
        for other in (EXAMPLE, LONG, (TAPPED,) * 200):
            self.refuse(TooGreat, lambda: parting(1, LONG, other), most=60)
            self.refuse(TooGreat, lambda: parting(1, other if len(other) > 60 else LONG, EXAMPLE), most=60)
        self.refuse(TooGreat, lambda: parting(1, EXAMPLE, LONG), most=60)
        self.refuse(BadRow, lambda: parting(1, EXAMPLE, LONG + (None,)), place=(61,))
        for tracks in NO_NUMBERS_OF_TRACKS:
            for one, other in ((EXAMPLE, EXAMPLE), (None, None), (LONG, LONG)):
                self.refuse(OutOfPlace, lambda: parting(tracks, one, other))

    def test_the_rows_are_such_for_so_many_tracks(self):
        row = ((("tap", 2),),)
        self.assertIsNone(parting(3, row, row))
        self.refuse(BadRow, lambda: parting(2, row, ((),)), place=(0, 0))
        self.refuse(BadRow, lambda: parting(2, ((),), row), place=(0, 0))


class Calls(Refusals):
    def test_by_name(self):
        self.assertEqual(shares(tick=1, tracks=1, row=(TAPPED, TAPPED)), (1, 0))
        self.assertEqual(parting(other=(TAPPED, TAPPED), tracks=1, one=((), ())), (1, 0))

    def test_kinds_of_results(self):
        told = shares(1, EXAMPLE, 9)
        self.assertIs(type(told), tuple)
        self.assertEqual({type(share) for share in told}, {int})
        told = parting(1, (TAPPED, TAPPED), ((), ()))
        self.assertIs(type(told), tuple)
        self.assertEqual([type(part) for part in told], [int, int])

    def test_equal_calls_tell_the_same_and_change_nothing(self):
        chance = random.Random(69)
        for turn in range(20):
            one, other = chance_row(chance, 2, 20), chance_row(chance, 2, 20)
            kept = copy.deepcopy((one, other))
            self.assertEqual(shares(2, one, 30 + GREAT % 7), shares(2, one, 30 + GREAT % 7))
            self.assertEqual(parting(2, one, other), parting(2, one, other))
            self.assertEqual((one, other), kept)


if __name__ == "__main__":
    unittest.main()
