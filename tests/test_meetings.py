"""meetings.py: point [8], and point [1] as far as meetings.py keeps it."""

import copy
import itertools
import math
import random
import unittest
import unittest.mock

from pedalrounds.errors import BadLengths, BadPaper, OutOfPlace
from pedalrounds.meetings import check_meeting, meeting
from wrongs import GREAT, NO_INTEGERS, NO_TUPLES, Refusals

SIX = (64, 63, 61, 59, 55, 53)
NO_PLACES = NO_TUPLES + ((), (0,), (0, 0, 0), (2, 0), (0, 3), (-1, 0), (0, -1), (GREAT, 0), (0, -GREAT), [0, 0])
NO_LENGTHS = (((0,), (0,)), ((65,), (0,)), ((1,) * 7, ()), ((2, True), (1,)), ([2, 3], ()), (None, ()))
NO_FORMS = NO_TUPLES + (
    (), ("tick",), ("never",), ("tick", 0, 1), ("never", 0), ("never", 0, 1, 2), ("Tick", 0), ("told", 0), (b"tick", 0),
    (("tick",), 0), (None, 0), (0, "tick"), ["tick", 0], ["never", 0, 1], ("", 0), (unittest.mock.ANY, 0),
    (unittest.mock.ANY, 0, 1), ("loops", 0, 1),
)


def pairs_that_never_meet(lengths, places):
    return [
        (one, other) for one, other in itertools.combinations(range(len(lengths)), 2)
        if (places[one] - places[other]) % math.gcd(lengths[one], lengths[other])
    ]


class Meeting(Refusals):
    def test_places_that_meet(self):
        self.assertEqual(meeting((2, 3), (0, 0)), ("tick", 0))
        self.assertEqual(meeting((2, 3), (1, 1)), ("tick", 1))
        self.assertEqual(meeting((2, 3), (1, 0)), ("tick", 3))
        self.assertEqual(meeting((2, 3), (0, 1)), ("tick", 4))
        self.assertEqual(meeting((2, 3), (1, 2)), ("tick", 5))
        self.assertEqual(meeting((4, 6), (3, 5)), ("tick", 11))
        self.assertEqual(meeting((6, 4), (1, 3)), ("tick", 7))
        self.assertEqual(meeting((5, 5, 1), (3, 3, 0)), ("tick", 3))

    def test_of_no_lengths(self):
        self.assertEqual(meeting((), ()), ("tick", 0))

    def test_one_length(self):
        for length in range(1, 65):
            for place in (0, length // 2, length - 1):
                self.assertEqual(meeting((length,), (place,)), ("tick", place))

    def test_the_first_pair_that_never_meets(self):
        self.assertEqual(meeting((2, 2), (0, 1)), ("never", 0, 1))
        self.assertEqual(meeting((4, 6), (0, 1)), ("never", 0, 1))
        self.assertEqual(meeting((3, 4, 6), (0, 1, 1)), ("never", 0, 2))
        self.assertEqual(meeting((3, 4, 6), (1, 0, 1)), ("never", 1, 2))
        self.assertEqual(meeting((2, 3, 3, 2), (0, 0, 1, 1)), ("never", 0, 3))
        self.assertEqual(meeting((2, 3, 3, 5), (0, 0, 1, 1)), ("never", 1, 2))
        self.assertEqual(meeting((2,) * 6, (0, 0, 0, 0, 0, 1)), ("never", 0, 5))
        self.assertEqual(meeting((64,) * 6, (0, 1, 2, 3, 4, 5)), ("never", 0, 1))

    def test_all_places_of_some_lengths(self):
        for lengths in ((4, 6), (6, 4), (4, 6, 9), (6, 10, 15), (2, 2, 3), (8, 4, 2, 1), (12, 18)):
            common = math.lcm(*lengths)
            for places in itertools.product(*[range(length) for length in lengths]):
                ticks = [
                    tick for tick in range(common)
                    if all(tick % length == place for length, place in zip(lengths, places))
                ]
                if ticks:
                    self.assertEqual(meeting(lengths, places), ("tick", ticks[0]))
                else:
                    first = pairs_that_never_meet(lengths, places)[0]
                    self.assertEqual(meeting(lengths, places), ("never", *first))

    def test_the_greatest_lengths(self):
        common = math.lcm(*SIX)
        self.assertEqual(meeting(SIX, tuple(length - 1 for length in SIX)), ("tick", common - 1))
        self.assertEqual(meeting(SIX, (0,) * 6), ("tick", 0))
        chance = random.Random(31)
        for turn in range(50):
            tick = chance.randrange(common)
            lengths = tuple(chance.sample(SIX, 6))
            self.assertEqual(meeting(lengths, tuple(tick % length for length in lengths)), ("tick", tick))

    def test_chance_places(self):
        chance = random.Random(32)
        seen = {"tick": 0, "never": 0}
        for turn in range(400):
            lengths = tuple(chance.randint(1, 64) for length in range(chance.randint(2, 6)))
            tick = chance.randrange(10 ** 9)
            places = [tick % length for length in lengths]
            if chance.random() < 0.5:
                at = chance.randrange(len(lengths))
                places[at] = chance.randrange(lengths[at])
            paper = meeting(lengths, tuple(places))
            seen[paper[0]] += 1
            pairs = pairs_that_never_meet(lengths, places)
            if pairs:
                self.assertEqual(paper, ("never", *pairs[0]))
            else:
                self.assertEqual(paper[0], "tick")
                self.assertTrue(0 <= paper[1] < math.lcm(*lengths))
                self.assertEqual([paper[1] % length for length in lengths], places)
            self.assertEqual(check_meeting(lengths, tuple(places), paper), paper[0])
        self.assertGreater(min(seen.values()), 50)

    def test_wrong_places(self):
        for places in NO_PLACES:
            self.refuse(OutOfPlace, lambda: meeting((2, 3), places))
            self.refuse(OutOfPlace, lambda: check_meeting((2, 3), places, ("tick", 0)))
        for wrong in NO_INTEGERS:
            self.refuse(OutOfPlace, lambda: meeting((2, 3), (0, wrong)))
            self.refuse(OutOfPlace, lambda: meeting((2, 3), (wrong, 0)))
            self.refuse(OutOfPlace, lambda: check_meeting((2, 3), (wrong, 0), ("tick", 0)))
        for places in ((0,), [], None, ((),)):
            self.refuse(OutOfPlace, lambda: meeting((), places))

    def test_refused_from_left_to_right(self):
        for lengths, place in NO_LENGTHS:
            for places in ((0, 0), None, (9,)):
                self.refuse(BadLengths, lambda: meeting(lengths, places), place=place)
                self.refuse(BadLengths, lambda: check_meeting(lengths, places, None), place=place)
                self.refuse(BadLengths, lambda: check_meeting(paper=None, places=places, lengths=lengths), place=place)
        for paper in (None, (), ("tick", -1), ("never", 1, 0)):
            self.refuse(OutOfPlace, lambda: check_meeting((2, 3), (0, 3), paper))


class CheckMeeting(Refusals):
    def test_papers_that_hold(self):
        self.assertEqual(check_meeting((2, 3), (1, 0), ("tick", 3)), "tick")
        self.assertEqual(check_meeting((), (), ("tick", 0)), "tick")
        # Each pair that never meets will do, not the first one alone.
        for paper in (("never", 0, 1), ("never", 0, 2), ("never", 1, 3), ("never", 2, 3)):
            self.assertEqual(check_meeting((2, 4, 6, 8), (0, 1, 1, 2), paper), "never")

    def test_forms(self):
        for paper in NO_FORMS:
            self.refuse(BadPaper, lambda: check_meeting((2, 2), (0, 0), paper), part="form")
            self.refuse(BadPaper, lambda: check_meeting((2, 2), (0, 1), paper), part="form")
            self.refuse(BadPaper, lambda: check_meeting((), (), paper), part="form")
        for wrong in NO_INTEGERS:
            for paper in (("tick", wrong), ("never", wrong, 1), ("never", 0, wrong), ("never", wrong, wrong)):
                self.refuse(BadPaper, lambda: check_meeting((2, 2), (0, 1), paper), part="form")
                self.refuse(BadPaper, lambda: check_meeting((2, 2), (0, 0), paper), part="form")

    def test_ticks_that_are_not_as_told(self):
        for tick in (-6, -3, -1, 0, 1, 2, 4, 5, 6, 9, 15, 3 + 6 * 10 ** 30, GREAT, -GREAT):
            self.refuse(BadPaper, lambda: check_meeting((2, 3), (1, 0), ("tick", tick)), part="tick")
        for tick in range(-10, 60):
            self.refuse(BadPaper, lambda: check_meeting((4, 6), (0, 1), ("tick", tick)), part="tick")
        for tick in (-1, 1, 2, GREAT):
            self.refuse(BadPaper, lambda: check_meeting((), (), ("tick", tick)), part="tick")
        common = math.lcm(*SIX)
        for tick in (common, -common):
            self.refuse(BadPaper, lambda: check_meeting(SIX, (0,) * 6, ("tick", tick)), part="tick")

    def test_pairs_that_are_not_as_told(self):
        lengths, places = (2, 4, 6, 8), (0, 1, 1, 2)
        right = pairs_that_never_meet(lengths, places)
        for pair in itertools.product(range(-6, 7), repeat=2):
            call = (lambda: check_meeting(lengths, places, ("never", *pair)))
            if pair in right:
                self.assertEqual(call(), "never")
            else:
                self.refuse(BadPaper, call, part="never")
        for pair in ((0, GREAT), (-GREAT, 1), (0, 0), (1, 0), (0, -1), (0, 1), (-2, -1), (0, 2)):
            self.refuse(BadPaper, lambda: check_meeting((2, 3), (0, 0), ("never", *pair)), part="never")
            self.refuse(BadPaper, lambda: check_meeting((), (), ("never", *pair)), part="never")

    def test_a_paper_of_the_other_form(self):
        self.refuse(BadPaper, lambda: check_meeting((2, 2), (0, 0), ("never", 0, 1)), part="never")
        self.refuse(BadPaper, lambda: check_meeting((2, 2), (0, 1), ("tick", 0)), part="tick")


class Calls(Refusals):
    def test_by_name(self):
        self.assertEqual(meeting(places=(1, 0), lengths=(2, 3)), ("tick", 3))
        self.assertEqual(check_meeting(paper=("tick", 3), places=(1, 0), lengths=(2, 3)), "tick")

    def test_papers_are_tuples_of_integers(self):
        for lengths, places in (((2, 3), (1, 0)), ((2, 2), (1, 0)), ((), ())):
            paper = meeting(lengths, places)
            self.assertIsInstance(paper, tuple)
            for number in paper[1:]:
                self.assertIs(type(number), int)

    def test_equal_calls_tell_the_same_and_change_nothing(self):
        for lengths, places in (((2, 3), (1, 0)), ((2, 2), (1, 0)), ((), ()), (SIX, (1,) * 6)):
            kept = copy.deepcopy((lengths, places))
            paper = meeting(lengths, places)
            self.assertEqual(meeting(lengths, places), paper)
            self.assertEqual(check_meeting(lengths, places, paper), check_meeting(lengths, places, paper))
            self.assertEqual((lengths, places), kept)

    def test_what_is_refused_is_not_changed(self):
        places, paper = [0, 0], ["tick", 0]
        self.refuse(OutOfPlace, lambda: meeting((2, 3), places))
        self.refuse(BadPaper, lambda: check_meeting((2, 3), (0, 0), paper), part="form")
        self.assertEqual((places, paper), ([0, 0], ["tick", 0]))


if __name__ == "__main__":
    unittest.main()
