"""loops.py: point [2], and point [1] as far as loops.py keeps it."""

import copy
import random
import unittest

from pedalrounds.errors import BadLoops, OutOfPlace
from pedalrounds.loops import heard, heard_row, later, lengths_of, need_loops
from wrongs import BEYOND_MANY, BEYOND_TICKS, GREAT, NO_INTEGERS, NO_TUPLES

LATEST = 10 ** 30
TWO = ((5, -1), (7, 0, 2))
SIX = ((1,), (2, 3), (4, 5, 6), tuple(range(64)), (0, 0, 0, 0), (-9,) * 63)
GOOD = ((), ((1,),), TWO, SIX, ((GREAT, -GREAT), (1,)), ((0,) * 64,) * 6)

# Each with the place of the first thing that is wrong.
WRONG = tuple((thing, ()) for thing in NO_TUPLES) + (
    (((1,),) * 7, ()),
    (((),) * 7, ()),
    ((1,) * 7, ()),
    (((),), (0,)),
    (((0,) * 65,), (0,)),
    (((1,), ()), (1,)),
    (((1,), [1], ()), (1,)),
    (((1,), (2,), (3,), (4,), (5,), 6), (5,)),
    ((1, 2), (0,)),
    (((1,), (True,) * 65, (1,)), (1,)),
    (((True,),), (0, 0)),
    (((1, False),), (0, 1)),
    (((1, 2), (3, "4", None)), (1, 1)),
    (((1, 2), (3, (4,))), (1, 1)),
    (((0,) * 63 + (None,),), (0, 63)),
    (((1,),) * 5 + ((1, 2, 3.0),), (5, 2)),
    # A LOOP of a wrong form is told ahead of each thing that is no integer.
    (((True,), ()), (1,)),
    (((1,), (2, "x"), (3,), [4]), (3,)),
    (((1,), (2, "x"), (None,)), (1, 1)),
)


def calls_of(loops):
    """Each call of loops.py that takes LOOPS, with other arguments that are right."""
    return (
        lambda: need_loops(loops), lambda: lengths_of(loops), lambda: heard(loops, 0),
        lambda: heard_row(loops, 0, 0), lambda: later(loops, 0),
    )


def some_loops(chance, longest=64):
    return tuple(
        tuple(chance.randint(-9, 9) for thing in range(chance.randint(1, longest)))
        for loop in range(chance.randint(0, 6))
    )


class NeedLoops(unittest.TestCase):
    def test_loops_are_told_themselves(self):
        for loops in GOOD:
            self.assertIs(need_loops(loops), loops)

    def test_the_bounds_of_loops(self):
        for many in range(7):
            loops = ((1,),) * many
            self.assertIs(need_loops(loops), loops)
        for length in range(1, 65):
            loops = ((2,) * length,)
            self.assertIs(need_loops(loops), loops)

    def test_integers_of_any_digits(self):
        for digits in (1, 999, 1000, 3000):
            loops = ((10 ** digits - 1, -10 ** digits),)
            self.assertIs(need_loops(loops), loops)
            self.assertEqual(heard_row(loops, 1, 2), (-10 ** digits, 10 ** digits - 1))

    def test_the_place_of_the_first_wrong_thing(self):
        for thing, place in WRONG:
            with self.assertRaises(BadLoops) as caught:
                need_loops(thing)
            self.assertEqual(caught.exception.place, place, thing)
            self.assertIsInstance(caught.exception.place, tuple)

    def test_a_thing_that_is_no_integer(self):
        for wrong in NO_INTEGERS:
            with self.assertRaises(BadLoops) as caught:
                need_loops(((1,), (2, wrong)))
            self.assertEqual(caught.exception.place, (1, 1), wrong)

    def test_a_loop_that_is_no_tuple(self):
        for wrong in NO_TUPLES:
            with self.assertRaises(BadLoops) as caught:
                need_loops(((1,), wrong))
            self.assertEqual(caught.exception.place, (1,), wrong)

    def test_each_call_refuses_what_are_no_loops(self):
        for thing, place in WRONG:
            for call in calls_of(thing):
                with self.assertRaises(BadLoops) as caught:
                    call()
                self.assertEqual(caught.exception.place, place, thing)


class LengthsOf(unittest.TestCase):
    def test_lengths_in_their_order(self):
        self.assertEqual(lengths_of(()), ())
        self.assertEqual(lengths_of(TWO), (2, 3))
        self.assertEqual(lengths_of(TWO[::-1]), (3, 2))
        self.assertEqual(lengths_of(SIX), (1, 2, 3, 64, 4, 63))
        self.assertEqual(lengths_of(((0,), (0,))), (1, 1))
        self.assertIsInstance(lengths_of(TWO), tuple)


class Heard(unittest.TestCase):
    def test_each_loop_sounds_by_what_the_tick_leaves(self):
        self.assertEqual([heard(TWO, tick) for tick in range(7)], [12, -1, 7, 6, 5, 1, 12])
        self.assertEqual([heard(((4,),), tick) for tick in (0, 1, LATEST)], [4, 4, 4])

    def test_of_no_loops_0_is_heard(self):
        for tick in (0, 1, 63, LATEST):
            self.assertEqual(heard((), tick), 0)

    def test_the_last_tick(self):
        ring = tuple(range(64))
        # 10 ** 30 is a multiple of 64, and leaves 1 when it is divided by 63.
        self.assertEqual(heard((ring,), LATEST), 0)
        self.assertEqual(heard((ring,), LATEST - 1), 63)
        self.assertEqual(heard((ring[:63],), LATEST), 1)

    def test_great_integers(self):
        self.assertEqual(heard(((GREAT, 0), (1, GREAT, 2)), 0), GREAT + 1)
        self.assertEqual(heard(((GREAT, 0), (1, -GREAT, 2)), 4), 0)
        self.assertEqual(heard(((GREAT,),) * 6, 5), 6 * GREAT)

    def test_chance_loops(self):
        chance = random.Random(1)
        for turn in range(60):
            loops = some_loops(chance)
            for tick in (0, 1, chance.randint(0, 500), chance.randint(0, LATEST), LATEST):
                total = 0
                for loop in loops:
                    total += loop[tick % len(loop)]
                self.assertEqual(heard(loops, tick), total)

    def test_wrong_ticks(self):
        for tick in NO_INTEGERS + BEYOND_TICKS:
            with self.assertRaises(OutOfPlace):
                heard(TWO, tick)
            with self.assertRaises(OutOfPlace):
                heard((), tick)

    def test_loops_are_refused_ahead_of_the_tick(self):
        with self.assertRaises(BadLoops):
            heard(((),), -1)
        with self.assertRaises(BadLoops):
            heard(tick=-1, loops=((),))


class HeardRow(unittest.TestCase):
    def test_what_is_heard_at_so_many_ticks(self):
        self.assertEqual(heard_row(TWO, 0, 7), (12, -1, 7, 6, 5, 1, 12))
        self.assertEqual(heard_row(TWO, 3, 2), (6, 5))
        self.assertEqual(heard_row(TWO, 5, 1), (1,))
        self.assertIsInstance(heard_row(TWO, 5, 1), tuple)

    def test_no_ticks(self):
        for loops in GOOD:
            self.assertEqual(heard_row(loops, 4, 0), ())

    def test_no_loops(self):
        self.assertEqual(heard_row((), LATEST, 3), (0, 0, 0))

    def test_the_greatest_bounds(self):
        ring = tuple(range(64))
        row = heard_row((ring,), LATEST, 1000)
        # No assertEqual here: it would show for minutes how such rows differ.
        self.assertTrue(row == tuple(at % 64 for at in range(1000)))
        row = heard_row((ring[:63], (GREAT,)), LATEST, 1000)
        self.assertTrue(row == tuple(GREAT + (at + 1) % 63 for at in range(1000)))

    def test_it_is_what_heard_tells(self):
        chance = random.Random(2)
        for turn in range(30):
            loops = some_loops(chance)
            tick = chance.randint(0, LATEST - 50)
            many = chance.randint(0, 50)
            row = heard_row(loops, tick, many)
            self.assertEqual(row, tuple(heard(loops, tick + at) for at in range(many)))

    def test_wrong_ticks_and_wrong_many(self):
        for tick in NO_INTEGERS + BEYOND_TICKS:
            with self.assertRaises(OutOfPlace):
                heard_row(TWO, tick, 1)
        for many in NO_INTEGERS + BEYOND_MANY:
            with self.assertRaises(OutOfPlace):
                heard_row(TWO, 0, many)

    def test_refused_from_left_to_right(self):
        for tick, many in ((-1, -1), (0, 1001), (True, 0), (None, None)):
            with self.assertRaises(BadLoops) as caught:
                heard_row(((1,), ("x",)), tick, many)
            self.assertEqual(caught.exception.place, (1, 0))
        # Both are OutOfPlace; only the words tell that the tick is refused first.
        words = {}
        for name, tick, many in (("tick", -1, 0), ("many", 0, -1), ("both", -1, -1)):
            with self.assertRaises(OutOfPlace) as caught:
                heard_row(TWO, tick, many)
            words[name] = str(caught.exception)
        self.assertEqual(words["both"], words["tick"])
        self.assertNotEqual(words["both"], words["many"])


class Later(unittest.TestCase):
    def test_each_loop_begins_so_many_ticks_later(self):
        self.assertEqual(later(TWO, 0), TWO)
        self.assertEqual(later(TWO, 1), ((-1, 5), (0, 2, 7)))
        self.assertEqual(later(TWO, 2), ((5, -1), (2, 7, 0)))
        self.assertEqual(later(TWO, 6), TWO)
        self.assertEqual(later((), 9), ())
        self.assertEqual(later(((3,),), LATEST), ((3,),))

    def test_the_last_tick(self):
        ring = tuple(range(63))
        self.assertEqual(later((ring,), LATEST), (ring[1:] + (0,),))

    def test_what_was_heard_later_is_heard_at_once(self):
        chance = random.Random(3)
        for turn in range(40):
            loops = some_loops(chance)
            ticks = chance.randint(0, LATEST - 300)
            begun = later(loops, ticks)
            self.assertIs(need_loops(begun), begun)
            self.assertEqual(lengths_of(begun), lengths_of(loops))
            self.assertEqual(heard_row(begun, 0, 200), heard_row(loops, ticks, 200))
            for loop, moved in zip(loops, begun):
                self.assertEqual(heard((moved,), 0), heard((loop,), ticks))
                self.assertEqual(sorted(moved), sorted(loop))

    def test_wrong_numbers_of_ticks(self):
        for ticks in NO_INTEGERS + BEYOND_TICKS:
            with self.assertRaises(OutOfPlace):
                later(TWO, ticks)
            with self.assertRaises(OutOfPlace):
                later((), ticks)

    def test_loops_are_refused_ahead_of_the_ticks(self):
        with self.assertRaises(BadLoops):
            later([(1,)], -1)


class Calls(unittest.TestCase):
    def test_by_name(self):
        self.assertEqual(need_loops(thing=TWO), TWO)
        self.assertEqual(lengths_of(loops=TWO), (2, 3))
        self.assertEqual(heard(tick=1, loops=TWO), -1)
        self.assertEqual(heard_row(many=2, tick=1, loops=TWO), (-1, 7))
        self.assertEqual(later(ticks=1, loops=TWO), ((-1, 5), (0, 2, 7)))

    def test_what_is_told_may_be_passed_on(self):
        loops = ((10 ** 999,) * 2,) * 6
        told = heard_row(loops, 0, 2)
        for turn in range(5):
            told = heard_row((told,) * 6, 0, 2)
        self.assertEqual(told, (6 ** 6 * 10 ** 999,) * 2)

    def test_equal_calls_tell_the_same_and_change_nothing(self):
        for loops in GOOD:
            kept = copy.deepcopy(loops)
            told = [(call(), call()) for call in calls_of(loops)]
            for one, other in told:
                self.assertEqual(one, other)
            self.assertEqual(loops, kept)

    def test_what_is_refused_is_not_changed(self):
        for thing in ([[1], [2]], ((1,), [2, 3]), {0: (1,)}):
            kept = copy.deepcopy(thing)
            for call in calls_of(thing):
                with self.assertRaises(BadLoops):
                    call()
            self.assertEqual(thing, kept)


if __name__ == "__main__":
    unittest.main()
