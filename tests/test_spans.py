"""spans.py: points [3] and [4], and point [1] as far as spans.py keeps it."""

import copy
import fractions
import itertools
import math
import random
import time
import unittest

from pedalrounds.errors import BadLengths, OutOfPlace
from pedalrounds.loops import heard_row
from pedalrounds.spans import carried, need_lengths, span, weights
from wrongs import BEYOND_MANY, GREAT, NO_INTEGERS, NO_TUPLES

GREATEST = (64, 63, 61, 59, 55, 53)
GOOD = (
    (), (1,), (2,), (64,), (2, 3), (3, 2), (4, 6), (6, 10, 15), (1, 1, 1), (5, 5), (2, 4, 8, 16, 32, 64),
    (12, 18), (60, 48, 36, 24, 12, 6), (64,) * 6, (1,) * 6, (7, 1, 7), (30, 42, 63, 35), GREATEST,
)

# Each with the place of the first thing that is wrong.
WRONG = tuple((thing, ()) for thing in NO_TUPLES) + (
    ((1,) * 7, ()),
    ((0,) * 7, ()),
    ((0,), (0,)),
    ((65,), (0,)),
    ((-1,), (0,)),
    ((10 ** 999,), (0,)),
    ((1, 2, 0), (2,)),
    ((64, 65, 0), (1,)),
    ((1, True), (1,)),
    ((False, 1), (0,)),
    ((1, 2, 3, 4, 5, (6,)), (5,)),
    (((1,),), (0,)),
)


def calls_of(lengths):
    """Each call of spans.py, with other arguments that are right for ()."""
    return (
        lambda: need_lengths(lengths), lambda: span(lengths), lambda: weights(lengths),
        lambda: carried(lengths, (), 0),
    )


def span_by_fractions(lengths):
    return len({fractions.Fraction(part, length) for length in lengths for part in range(length)})


def some_lengths(chance, longest=64):
    return tuple(chance.randint(1, longest) for length in range(chance.randint(0, 6)))


def some_loops(chance, lengths):
    return tuple(tuple(chance.randint(-99, 99) for thing in range(length)) for length in lengths)


class NeedLengths(unittest.TestCase):
    def test_lengths_are_told_themselves(self):
        for lengths in GOOD + tuple((length,) for length in range(1, 65)):
            self.assertIs(need_lengths(lengths), lengths)

    def test_the_place_of_the_first_wrong_thing(self):
        for thing, place in WRONG:
            for call in calls_of(thing):
                with self.assertRaises(BadLengths) as caught:
                    call()
                self.assertEqual(caught.exception.place, place, thing)
                self.assertIsInstance(caught.exception.place, tuple)

    def test_a_thing_that_is_no_integer(self):
        for wrong in NO_INTEGERS:
            with self.assertRaises(BadLengths) as caught:
                need_lengths((1, wrong, None))
            self.assertEqual(caught.exception.place, (1,), wrong)


class Span(unittest.TestCase):
    def test_the_examples(self):
        self.assertEqual(span((2, 3)), 4)
        self.assertEqual(span((4, 6)), 8)
        self.assertEqual(span((6, 10, 15)), 22)
        self.assertEqual(span(()), 0)

    def test_one_length_and_equal_ones(self):
        for length in range(1, 65):
            for many in range(1, 7):
                self.assertEqual(span((length,) * many), length)

    def test_all_pairs(self):
        for one, other in itertools.product(range(1, 65), repeat=2):
            self.assertEqual(span((one, other)), one + other - math.gcd(one, other))

    def test_it_is_the_number_of_different_fractions(self):
        chance = random.Random(4)
        for lengths in GOOD + tuple(some_lengths(chance) for turn in range(60)):
            self.assertEqual(span(lengths), span_by_fractions(lengths), lengths)

    def test_the_order_is_of_no_weight(self):
        for lengths in itertools.permutations((6, 10, 15, 4)):
            self.assertEqual(span(lengths), span((4, 6, 10, 15)))


class Weights(unittest.TestCase):
    def check(self, lengths):
        told = weights(lengths)
        self.assertIsInstance(told, tuple)
        self.assertEqual(len(told), span_by_fractions(lengths) + 1, lengths)
        self.assertEqual(told[-1], 1, lengths)
        for weight in told:
            self.assertIs(type(weight), int)
        for length in lengths:
            for rest in range(length):
                self.assertEqual(sum(told[rest::length]), 0, (lengths, rest))

    def test_the_examples(self):
        self.assertEqual(weights((2, 3)), (-1, -1, 0, 1, 1))
        self.assertEqual(weights(()), (1,))

    def test_one_length_and_equal_ones(self):
        for length in range(1, 65):
            for many in (1, 2, 6):
                self.assertEqual(weights((length,) * many), (-1,) + (0,) * (length - 1) + (1,))

    def test_a_length_that_divides_another_one_adds_nothing(self):
        self.assertEqual(weights((1, 2, 4, 8, 64)), weights((64,)))
        self.assertEqual(weights((12, 18, 6, 9)), weights((18, 12)))

    def test_they_are_as_told(self):
        chance = random.Random(5)
        for lengths in GOOD + tuple(some_lengths(chance) for turn in range(60)):
            self.check(lengths)

    def test_all_pairs(self):
        for one, other in itertools.combinations(range(1, 65), 2):
            told = weights((one, other))
            self.assertEqual(len(told), one + other - math.gcd(one, other) + 1)
            self.assertEqual(told[-1], 1)
            for length in (one, other):
                self.assertFalse(any(sum(told[rest::length]) for rest in range(length)))

    def test_at_each_tick_the_weighted_sum_of_what_is_heard_is_0(self):
        chance = random.Random(6)
        for turn in range(25):
            lengths = some_lengths(chance)
            told = weights(lengths)
            loops = some_loops(chance, lengths)
            for tick in (0, 1, chance.randint(0, 10 ** 30)):
                row = heard_row(loops, tick, len(told))
                self.assertEqual(sum(weight * sample for weight, sample in zip(told, row)), 0)


class Carried(unittest.TestCase):
    def test_the_example(self):
        self.assertEqual(carried((2, 3), (5, 0, 0, 7), 1), (-2,))
        # From the seventh sample on these loops begin anew.
        self.assertEqual(carried((2, 3), (5, 0, 0, 7), 8), (-2, 2, 5, 0, 0, 7, -2, 2))

    def test_no_samples(self):
        for lengths in GOOD:
            self.assertEqual(carried(lengths, (7,) * span(lengths), 0), ())

    def test_of_no_lengths_0_is_heard(self):
        self.assertEqual(carried((), (), 1), (0,))
        self.assertEqual(carried((), (), 1000), (0,) * 1000)

    def test_one_length_goes_round(self):
        self.assertEqual(carried((1,), (5,), 3), (5, 5, 5))
        self.assertEqual(carried((3, 3, 1), (1, 2, 4), 7), (1, 2, 4, 1, 2, 4, 1))
        ring = tuple(range(64))
        self.assertTrue(carried((64,), ring, 1000) == (ring * 16)[:1000])

    def test_what_loops_are_heard_as_is_carried_on(self):
        chance = random.Random(7)
        for turn in range(40):
            lengths = some_lengths(chance)
            loops = some_loops(chance, lengths)
            first = span(lengths)
            many = chance.choice((1, 2, 10, 300))
            row = heard_row(loops, 0, first)
            self.assertTrue(carried(lengths, row, many) == heard_row(loops, first, many), lengths)

    def test_any_integers_are_carried_on_as_rounds(self):
        chance = random.Random(8)
        for lengths in ((4, 6), (6, 10, 15), (2, 3, 5, 7), (12, 18), (1, 9)):
            row = tuple(chance.randint(-99, 99) for sample in range(span(lengths)))
            common = math.lcm(*lengths)
            whole = row + carried(lengths, row, 2 * common)
            self.assertEqual(whole[common:], whole[:-common])

    def test_what_is_carried_may_be_carried_on(self):
        row = tuple(GREAT + at * at for at in range(span(GREATEST)))
        coming = carried(GREATEST, row, 500)
        # No assertEqual here: it would show for minutes how such rows differ.
        self.assertTrue(carried(GREATEST, coming[:350], 150) == coming[350:])

    def test_samples_of_a_thousand_digits(self):
        loops = ((GREAT, -GREAT), (GREAT, 3, -5), (0, 1, GREAT, 2))
        first = span((2, 3, 4))
        self.assertTrue(carried((2, 3, 4), heard_row(loops, 0, first), 1000) == heard_row(loops, first, 1000))

    def test_wrong_rows(self):
        right = (5, 0, 0, 7)
        for row in NO_TUPLES + ((), right[:3], right + (1,), list(right)):
            with self.assertRaises(OutOfPlace):
                carried((2, 3), row, 1)
        for wrong in NO_INTEGERS:
            for at in range(4):
                with self.assertRaises(OutOfPlace):
                    carried((2, 3), right[:at] + (wrong,) + right[at + 1:], 0)
        for row in ((0,), [], None):
            with self.assertRaises(OutOfPlace):
                carried((), row, 1)

    def test_wrong_many(self):
        for many in NO_INTEGERS + BEYOND_MANY:
            with self.assertRaises(OutOfPlace):
                carried((2, 3), (5, 0, 0, 7), many)

    def test_refused_from_left_to_right(self):
        with self.assertRaises(BadLengths) as caught:
            carried((2, 0), None, -1)
        self.assertEqual(caught.exception.place, (1,))
        # Both are OutOfPlace; only the words tell that the row is refused first.
        words = {}
        for name, row, many in (("row", (), 0), ("many", (5, 0, 0, 7), -1), ("both", (), -1)):
            with self.assertRaises(OutOfPlace) as caught:
                carried((2, 3), row, many)
            words[name] = str(caught.exception)
        self.assertEqual(words["both"], words["row"])
        self.assertNotEqual(words["both"], words["many"])


class Calls(unittest.TestCase):
    def test_by_name(self):
        self.assertEqual(need_lengths(thing=(2, 3)), (2, 3))
        self.assertEqual(span(lengths=(2, 3)), 4)
        self.assertEqual(weights(lengths=(2, 3)), (-1, -1, 0, 1, 1))
        self.assertEqual(carried(many=1, row=(5, 0, 0, 7), lengths=(2, 3)), (-2,))

    def test_equal_calls_tell_the_same_and_change_nothing(self):
        for lengths in GOOD:
            kept = copy.deepcopy(lengths)
            row = tuple(range(span(lengths)))
            for call in calls_of(lengths)[:3] + (lambda: carried(lengths, row, 9),):
                self.assertTrue(call() == call())
            self.assertEqual(lengths, kept)
            self.assertEqual(row, tuple(range(span(lengths))))

    def test_what_is_refused_is_not_changed(self):
        lengths, row = [2, 3], [5, 0, 0, 7]
        with self.assertRaises(BadLengths):
            carried(lengths, row, 1)
        with self.assertRaises(OutOfPlace):
            carried((2, 3), row, 1)
        self.assertEqual((lengths, row), ([2, 3], [5, 0, 0, 7]))

    def test_the_greatest_lengths_are_told_in_a_short_time(self):
        row = tuple((-1) ** at * (GREAT - at) for at in range(350))
        begun = time.process_time()
        for lengths in (GREATEST, GREATEST[::-1], (64, 62, 60, 58, 57, 55)):
            self.assertEqual(len(weights(lengths)), span(lengths) + 1)
        self.assertEqual(span(GREATEST), 350)
        coming = carried(GREATEST, row, 1000)
        # Far more than it takes, so that a slow machine does not fail it.
        self.assertLess(time.process_time() - begun, 5)
        self.assertEqual(len(coming), 1000)
        told = weights(GREATEST)
        whole = row + coming
        for tick in (0, 1, 499, 999):
            self.assertEqual(sum(weight * sample for weight, sample in zip(told, whole[tick:])), 0)


if __name__ == "__main__":
    unittest.main()
