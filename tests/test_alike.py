"""alike.py: point [7], and point [1] as far as alike.py keeps it."""

import copy
import math
import random
import time
import unittest

from pedalrounds.alike import first_apart, period, silent
from pedalrounds.errors import BadLoops
from pedalrounds.fits import deceiver
from pedalrounds.loops import heard_row, later
from wrongs import GREAT, NO_INTEGERS, NO_TUPLES

ONE = ((1, 2), (3, 4, 5, 4, 3, 5))
OTHER = ((4, 6, 6, 6, 4, 7),)
SIX_LENGTHS = (64, 63, 61, 59, 55, 53)
# The same up to the tick 125; 126 is the SPAN of their LENGTHS.
LONG = ((0,) * 62 + (1,),)
LONGER = ((0,) * 62 + (1, 0),)

# Each with the place of the first thing that is wrong.
WRONG = tuple((thing, ()) for thing in NO_TUPLES) + tuple((((1, wrong),), (0, 1)) for wrong in NO_INTEGERS) + (
    (((1,),) * 7, ()), (((1,), ()), (1,)), (((0,) * 65,), (0,)), (((1,), [1]), (1,)), ((1, 2), (0,)),
)


def some_loops(chance, longest=8, most=1):
    return tuple(
        tuple(chance.randint(-most, most) for thing in range(chance.randint(1, longest)))
        for loop in range(chance.randint(0, 4))
    )


def taken_away(loops):
    return tuple(tuple(-thing for thing in loop) for loop in loops)


def multiple(loops):
    return math.lcm(*[len(loop) for loop in loops])


def six_loops(chance):
    return tuple(tuple(chance.randint(-99, 99) for thing in range(length)) for length in SIX_LENGTHS)


class Test(unittest.TestCase):
    def refuse(self, place, call):
        with self.assertRaises(BadLoops) as caught:
            call()
        self.assertEqual(caught.exception.place, place)


class FirstApart(Test):
    def test_the_example(self):
        self.assertIsNone(first_apart(ONE, OTHER))
        self.assertIsNone(first_apart(OTHER, ONE))
        for tick in range(6):
            other = (OTHER[0][:tick] + (OTHER[0][tick] + 1,) + OTHER[0][tick + 1:],)
            self.assertEqual(first_apart(ONE, other), tick)

    def test_no_loops(self):
        self.assertIsNone(first_apart((), ()))
        self.assertIsNone(first_apart((), ((0,), (0, 0))))
        self.assertIsNone(first_apart(((1, -1), (-1, 1)), ()))
        self.assertEqual(first_apart((), ((0, 0, 5),)), 2)
        self.assertEqual(first_apart(((0, 0, 5),), ()), 2)

    def test_any_numbers_of_loops(self):
        self.assertIsNone(first_apart(((1,),) * 6, ((6,),)))
        self.assertIsNone(first_apart(((2, 3),) * 6, ((4, 6),) * 3))
        self.assertEqual(first_apart(((2, 3),) * 6, ((4, 6),) * 3 + ((0, 0, 1),)), 2)

    def test_heard_alike_for_long(self):
        self.assertEqual(first_apart(LONG, LONGER), 125)
        self.assertEqual(first_apart(LONGER, LONG), 125)
        self.assertEqual(first_apart(LONG + taken_away(LONGER), ()), 125)
        loops = deceiver((24, 23, 19, 17))
        self.assertEqual(first_apart(loops, ()), 79)
        self.assertEqual(first_apart(loops[:2], taken_away(loops[2:])), 79)
        self.assertEqual(first_apart(loops + LONG, LONG), 79)

    def test_twelve_long_loops(self):
        chance = random.Random(21)
        begun = time.process_time()
        loops = six_loops(chance)
        self.assertIsNone(first_apart(loops, loops[::-1]))
        self.assertIsNone(first_apart(loops, later(loops, multiple(loops))))
        for at, loop in enumerate(loops):
            for tick in (0, len(loop) // 2, len(loop) - 1):
                other = loop[:tick] + (loop[tick] - 1,) + loop[tick + 1:]
                self.assertEqual(first_apart(loops, loops[:at] + (other,) + loops[at + 1:]), tick)
        # Two of them pass their only difference on, so that it is heard late.
        one = loops[:4] + LONG
        other = loops[3::-1] + LONGER
        self.assertEqual(first_apart(one, other), 125)
        # Far more than it takes, so that a slow machine does not fail it.
        self.assertLess(time.process_time() - begun, 5)

    def test_chance_loops(self):
        chance = random.Random(22)
        parted = 0
        for turn in range(300):
            one, other = some_loops(chance), some_loops(chance)
            rows = zip(heard_row(one, 0, 900), heard_row(other, 0, 900))
            apart = [tick for tick, (left, right) in enumerate(rows) if left != right]
            self.assertEqual(first_apart(one, other), apart[0] if apart else None)
            parted += bool(apart)
        self.assertGreater(parted, 100)
        self.assertLess(parted, 300)

    def test_great_things(self):
        self.assertEqual(first_apart(((GREAT, 0), (0, GREAT)), ((GREAT, GREAT, GREAT + 1),)), 2)
        self.assertIsNone(first_apart(((GREAT, 0), (0, GREAT)), ((GREAT,),)))

    def test_refused_from_left_to_right(self):
        for thing, place in WRONG:
            self.refuse(place, lambda: first_apart(thing, ONE))
            self.refuse(place, lambda: first_apart(ONE, thing))
            self.refuse(place, lambda: first_apart(thing, ((1,), (2, 3, None))))
            self.refuse((1, 2), lambda: first_apart(((1,), (2, 3, None)), thing))
            self.refuse(place, lambda: first_apart(other=((1,), (2, 3, None)), one=thing))


class Period(Test):
    def test_the_examples(self):
        self.assertEqual(period(((1, 2, 3, 4), (4, 3, 2, 1))), 1)
        self.assertEqual(period(((0, 1), (1, 0, 0))), 6)
        self.assertEqual(period(()), 1)
        self.assertEqual(period(ONE), period(OTHER))

    def test_one_loop(self):
        for length in range(1, 65):
            self.assertEqual(period(((0,) * length,)), 1)
            self.assertEqual(period(((0,) * (length - 1) + (1,),)), length)
            self.assertEqual(period((tuple(range(length)),)), length)
        self.assertEqual(period(((1, 2) * 32,)), 2)
        self.assertEqual(period(((1, 2, 3) * 21,)), 3)
        self.assertEqual(period(((1, 2, 3, 4, 5, 6, 7, 8) * 8,)), 8)

    def test_loops_that_take_one_another_away(self):
        chance = random.Random(23)
        loops = six_loops(chance)[:3]
        self.assertEqual(period(loops + taken_away(loops)), 1)
        self.assertEqual(period(loops + taken_away(loops[1:])), 64)
        self.assertEqual(period(loops + taken_away(loops[:2])), 61)
        self.assertEqual(period(((0, 1, 0, 0, 0, 0), (1, 0, 1, 0, 1, 0), (0, 0, 0, 0, 1, 0, 0, 0, 0))), 18)

    def test_lesser_than_the_multiple_of_the_lengths(self):
        self.assertEqual(period(((1, 0, 0, 1, 0, 0), (1, 0, 1, 0))), 6)
        self.assertEqual(period(((1, 0) * 6, (0, 1) * 9)), 1)
        self.assertEqual(period(((1, 0) * 6, (0, 2) * 9)), 2)
        self.assertEqual(period(((0, 0, 0, 1, 0, 0), (0, 0, 0, -1))), 12)
        self.assertEqual(period(((1, 2, 1, 2, 1, 3), (0, 0, 0, 0, 0, -1))), 2)

    def test_parts_that_are_heard_late(self):
        self.assertEqual(period(LONG + taken_away(LONGER)), 63 * 64)
        self.assertEqual(period(deceiver((24, 23, 19, 17))), 24 * 23 * 19 * 17)
        self.assertEqual(period(deceiver((24, 20, 18, 15))), 360)

    def test_six_long_loops_in_a_short_time(self):
        chance = random.Random(24)
        begun = time.process_time()
        loops = six_loops(chance)
        self.assertEqual(period(loops), math.lcm(*SIX_LENGTHS))
        self.assertEqual(period(loops[:5] + ((3,) * 53,)), math.lcm(*SIX_LENGTHS[:5]))
        self.assertEqual(period(((5,) * 64, *loops[1:])), math.lcm(*SIX_LENGTHS[1:]))
        self.assertEqual(period(tuple((0,) * length for length in SIX_LENGTHS)), 1)
        self.assertEqual(period(((1, 2) * 32, *loops[1:])), 2 * math.lcm(*SIX_LENGTHS[1:]))
        # Far more than it takes, so that a slow machine does not fail it.
        self.assertLess(time.process_time() - begun, 5)

    def test_it_is_the_least_one(self):
        chance = random.Random(25)
        lesser = 0
        for turn in range(400):
            loops = some_loops(chance)
            common = multiple(loops)
            row = heard_row(loops, 0, min(common, 1000))
            if common <= 1000:
                least = next(ticks for ticks in range(1, common + 1) if row == row[ticks:] + row[:ticks])
                self.assertEqual(period(loops), least)
                lesser += least < common
        self.assertGreater(lesser, 20)

    def test_wrong_loops(self):
        for thing, place in WRONG:
            self.refuse(place, lambda: period(thing))


class Silent(Test):
    def test_silence(self):
        for loops in ((), ((0,),), ((0,) * 64,) * 6, ((1, -1), (-1, 1)), ((1,), (2,), (-3,)), ((GREAT,), (-GREAT,) * 2)):
            self.assertIs(silent(loops), True)
        self.assertIs(silent(ONE + taken_away(OTHER)), True)
        self.assertIs(silent(OTHER + taken_away(ONE)), True)

    def test_sound(self):
        for loops in (((1,),), ((1, -1),), ((0,) * 63 + (1,),), ((0, 0), (0, 0, -1)), ((GREAT,), (-GREAT, 1 - GREAT))):
            self.assertIs(silent(loops), False)

    def test_sound_that_is_late(self):
        self.assertIs(silent(LONG + taken_away(LONGER)), False)
        for lengths in ((24, 23, 19, 17), (24, 22, 21, 20), (1,), (24,), (6, 10, 15)):
            self.assertIs(silent(deceiver(lengths)), False)

    def test_six_long_loops(self):
        chance = random.Random(26)
        loops = six_loops(chance)
        self.assertIs(silent(loops), False)
        self.assertIs(silent(loops[:3] + taken_away(loops[2::-1])), True)
        self.assertIs(silent(loops[:3] + taken_away(loops[1:4])), False)

    def test_wrong_loops(self):
        for thing, place in WRONG:
            self.refuse(place, lambda: silent(thing))


class Calls(Test):
    def test_by_name(self):
        self.assertEqual(first_apart(other=((0, 1),), one=((0,),)), 1)
        self.assertEqual(period(loops=((0, 1),)), 2)
        self.assertIs(silent(loops=((0, 0),)), True)

    def test_equal_calls_tell_the_same_and_change_nothing(self):
        chance = random.Random(27)
        for turn in range(30):
            loops, other = some_loops(chance, 20, 9), some_loops(chance, 20, 9)
            kept = copy.deepcopy((loops, other))
            for call in (lambda: first_apart(loops, other), lambda: period(loops), lambda: silent(loops)):
                self.assertEqual(call(), call())
            self.assertEqual((loops, other), kept)


if __name__ == "__main__":
    unittest.main()
