"""fits.py: points [5] and [6], and point [1] as far as fits.py keeps it."""

import copy
import fractions
import itertools
import random
import time
import unittest
import unittest.mock

from pedalrounds.errors import BadLengths, BadPaper, OutOfPlace, TooGreat
from pedalrounds.fits import check_fit, deceiver, fit
from pedalrounds.loops import heard_row, lengths_of, need_loops
from pedalrounds.spans import span, weights
from wrongs import GREAT, NO_INTEGERS, NO_TUPLES, Refusals

GREATEST = (24, 23, 19, 17)
AT_BOUNDS = (
    GREATEST, GREATEST[::-1], (24,) * 4, (1,) * 4, (24, 24, 23, 23), (24, 22, 21, 20), (24, 20, 18, 15),
    (23, 19, 17, 13), (12, 24, 8, 18), (24,), (1,), (24, 1), (1, 24), (6, 10, 15), (6, 10, 15, 21),
)
TOO_GREAT = ((25,), (64,), (1, 25), (24, 23, 19, 25), (1,) * 5, (24,) * 5, (64,) * 6, (1, 2, 3, 4, 5, 6))
NO_LENGTHS = (((65,), (0,)), ((25, 0), (1,)), ((1,) * 7, ()), ((25, True), (1,)), ([25], ()), (None, ()))
NO_ROWS = NO_TUPLES + ((0,) * 201, [0], (1, 2, None), ((1,),))
NO_FORMS = NO_TUPLES + (
    (), ("loops",), ("none",), ("loops", (), ()), ("none", (1,), 1), ("ground", (1,)), ("told", ()), ("LOOPS", ()),
    (b"loops", ()), (("loops",), ()), (None, ()), (0, 0), ((), "loops"), ["loops", ()], (["none"], ()), ("tick", 0),
    ("loops none", ()), ("", ()), (unittest.mock.ANY, ()),
)


def some_loops(chance, lengths, most=99):
    return tuple(tuple(chance.randint(-most, most) for thing in range(length)) for length in lengths)


def can_be_heard(lengths, row):
    """Whether some fractions in the loops are heard as the row, found by elimination."""
    places = [(length, rest) for length in lengths for rest in range(length)]
    table = [
        [fractions.Fraction(tick % length == rest) for length, rest in places] + [fractions.Fraction(sample)]
        for tick, sample in enumerate(row)
    ]
    done = 0
    for column in range(len(places)):
        found = [at for at in range(done, len(table)) if table[at][column]]
        if found:
            table[done], table[found[0]] = table[found[0]], table[done]
            for at in range(done + 1, len(table)):
                times = table[at][column] / table[done][column]
                table[at] = [one - times * other for one, other in zip(table[at], table[done])]
            done += 1
    return not any(line[-1] for line in table[done:])


def is_ground(lengths, row, ground):
    if any(sum(ground[rest::length]) for length in lengths for rest in range(length)):
        return False
    return len(ground) <= len(row) and sum(one * other for one, other in zip(ground, row)) != 0


class Test(Refusals):
    def check_loops(self, lengths, row):
        """That the row is told to be heard, with LOOPS that are."""
        paper = fit(lengths, row)
        self.assertIsInstance(paper, tuple)
        self.assertEqual(len(paper), 2)
        self.assertEqual(paper[0], "loops", lengths)
        loops = paper[1]
        self.assertIs(need_loops(loops), loops)
        self.assertEqual(lengths_of(loops), lengths)
        # No assertEqual here: it would show for minutes how such rows differ.
        self.assertTrue(heard_row(loops, 0, len(row)) == row)
        self.assertEqual(check_fit(lengths, row, paper), "loops")
        return loops

    def check_none(self, lengths, row):
        """That the row is told not to be heard, with a GROUND that none is shorter than."""
        paper = fit(lengths, row)
        self.assertIsInstance(paper, tuple)
        self.assertEqual(len(paper), 2)
        self.assertEqual(paper[0], "none", lengths)
        ground = paper[1]
        self.assertIsInstance(ground, tuple)
        for number in ground:
            self.assertIs(type(number), int)
        self.assertTrue(is_ground(lengths, row, ground))
        # What stands ahead of the last thing has no GROUND, so no shorter one is there.
        self.assertEqual(fit(lengths, row[:len(ground) - 1])[0], "loops")
        self.assertEqual(check_fit(lengths, row, paper), "none")
        return ground


class Fit(Test):
    def test_the_loops_of_the_document(self):
        self.check_loops((2, 3), (5, 0, 0, 7))
        self.check_loops((2, 3), (5, 0, 0, 7, -2, 2, 5, 0))
        ground = self.check_none((2, 3), (5, 0, 0, 7, -2, 2, 5, 1))
        self.assertEqual(len(ground), 8)

    def test_of_no_lengths(self):
        self.assertEqual(fit((), ()), ("loops", ()))
        self.assertEqual(fit((), (0,) * 200), ("loops", ()))
        for ahead in (0, 1, 5, 199):
            ground = self.check_none((), (0,) * ahead + (7,))
            self.assertEqual(len(ground), ahead + 1)
        self.assertEqual(len(self.check_none((), (0, -3, 0, 4, 0))), 2)

    def test_of_no_samples(self):
        for lengths in AT_BOUNDS:
            self.check_loops(lengths, ())

    def test_one_length(self):
        self.check_loops((1,), (4,) * 200)
        self.assertEqual(len(self.check_none((1,), (4,) * 199 + (5,))), 200)
        self.assertEqual(len(self.check_none((3,), (1, 2, 3, 1, 3))), 5)
        self.assertEqual(self.check_loops((3,), (1, 2, 3, 1)), ((1, 2, 3),))

    def test_any_samples_up_to_the_span(self):
        chance = random.Random(11)
        for lengths in AT_BOUNDS:
            first = span(lengths)
            for many in (1, first - 1, first):
                self.check_loops(lengths, tuple(chance.randint(-99, 99) for tick in range(many)))

    def test_one_sample_behind_the_span_is_settled(self):
        chance = random.Random(12)
        for lengths in AT_BOUNDS:
            row = heard_row(some_loops(chance, lengths), 0, span(lengths) + 1)
            self.check_loops(lengths, row)
            for more in (1, -1, 10 ** 30):
                ground = self.check_none(lengths, row[:-1] + (row[-1] + more,))
                self.assertEqual(len(ground), len(row))

    def test_rows_of_200_samples(self):
        chance = random.Random(13)
        for lengths in AT_BOUNDS:
            row = heard_row(some_loops(chance, lengths), 0, 200)
            self.check_loops(lengths, row)
            for spoiled in (0, 1, span(lengths), 150, 199):
                wrong = row[:spoiled] + (row[spoiled] + 1,) + row[spoiled + 1:]
                self.check_none(lengths, wrong)

    def test_short_rows_against_an_elimination(self):
        chance = random.Random(14)
        seen = {"loops": 0, "none": 0}
        for turn in range(120):
            lengths = tuple(chance.randint(1, 6) for length in range(chance.randint(0, 4)))
            row = list(heard_row(some_loops(chance, lengths, 5), 0, chance.randint(0, 18)))
            if row and chance.random() < 0.7:
                row[chance.randrange(len(row))] += chance.choice((1, -1, 8))
            row = tuple(row)
            if can_be_heard(lengths, row):
                seen["loops"] += 1
                self.check_loops(lengths, row)
            else:
                seen["none"] += 1
                ground = self.check_none(lengths, row)
                self.assertTrue(can_be_heard(lengths, row[:len(ground) - 1]))
        self.assertGreater(min(seen.values()), 20)

    def test_great_samples(self):
        loops = tuple((GREAT,) * (length - 1) + (-3,) for length in GREATEST)
        row = heard_row(loops, 0, 200)
        self.check_loops(GREATEST, row)
        self.check_none(GREATEST, row[:-1] + (row[-1] + GREAT,))
        self.check_loops((2, 3), (GREAT, -GREAT, 0, GREAT))

    def test_what_is_told_may_be_passed_on(self):
        row = tuple(GREAT + at * at for at in range(80))
        told = fit(GREATEST, row)[1]
        self.check_loops(GREATEST, heard_row(told, 10 ** 30, 200))

    def test_wrong_rows(self):
        for row in NO_ROWS:
            self.refuse(OutOfPlace, lambda: fit((2, 3), row))
            self.refuse(OutOfPlace, lambda: fit((), row))
            self.refuse(OutOfPlace, lambda: check_fit((2, 3), row, ("loops", ((0, 0), (0, 0, 0)))))
        for wrong in NO_INTEGERS:
            for row in ((wrong,), (1, wrong), (0,) * 199 + (wrong,)):
                self.refuse(OutOfPlace, lambda: fit((2, 3), row))
                self.refuse(OutOfPlace, lambda: check_fit((2, 3), row, ("loops", ((0, 0), (0, 0, 0)))))
        self.check_loops((2, 3), (0,) * 200)


class Lengths(Test):
    def calls(self, lengths, row=(), paper=("loops", ())):
        return (
            lambda: fit(lengths, row), lambda: check_fit(lengths, row, paper), lambda: deceiver(lengths),
        )

    def test_wrong_lengths_are_refused_ahead_of_all(self):
        for lengths, place in NO_LENGTHS:
            for call in self.calls(lengths) + self.calls(lengths, None, None):
                self.refuse(BadLengths, call, place=place)

    def test_too_great_lengths(self):
        for lengths in TOO_GREAT:
            for call in self.calls(lengths):
                self.refuse(TooGreat, call, most=24)

    def test_too_great_ahead_of_a_wrong_row_and_a_wrong_paper(self):
        for lengths in TOO_GREAT:
            for call in self.calls(lengths, [0], None) + self.calls(lengths, (0,) * 201, ("loops", None)):
                self.refuse(TooGreat, call, most=24)

    def test_a_wrong_row_ahead_of_a_wrong_paper(self):
        for paper in (None, (), ("loops", None), ("none", ())):
            for row in ([0], (True,), (0,) * 201):
                self.refuse(OutOfPlace, lambda: check_fit((2, 3), row, paper))
                self.refuse(OutOfPlace, lambda: check_fit(paper=paper, row=row, lengths=(2, 3)))


class CheckFit(Test):
    lengths = (2, 3)
    row = (12, -1, 7, 6, 5, 1)
    loops = ((5, -1), (7, 0, 2))
    wrong = (12, -1, 7, 6, 5, 2)

    def test_papers_that_hold(self):
        self.assertEqual(check_fit(self.lengths, self.row, ("loops", self.loops)), "loops")
        self.assertEqual(check_fit(self.lengths, self.row, ("loops", ((0, -6), (12, 5, 7)))), "loops")
        self.assertEqual(check_fit(self.lengths, (), ("loops", ((9, 9), (9, 9, 9)))), "loops")
        self.assertEqual(check_fit((), (0, 0), ("loops", ())), "loops")
        for ground in (
            (0, -1, -1, 0, 1, 1), (0, 3, 3, 0, -3, -3), (5, 6, 1, -5, -6, -1), (-1, -2, -1, 1, 2, 1),
        ):
            self.assertEqual(check_fit(self.lengths, self.wrong, ("none", ground)), "none")
        # Longer than it has to be.
        self.assertEqual(check_fit((1,), (1, 2, 3), ("none", (0, -1, 1))), "none")
        self.assertEqual(check_fit((1,), (1, 2, 3), ("none", (-1, 1, 0))), "none")
        self.assertEqual(check_fit((), (0, 2), ("none", (5, -1))), "none")

    def test_forms(self):
        for paper in NO_FORMS:
            for row in (self.row, self.wrong):
                self.refuse(BadPaper, lambda: check_fit(self.lengths, row, paper), part="form")

    def test_loops_that_are_none(self):
        for thing in NO_TUPLES + (
            ((5, -1), [7, 0, 2]), [(5, -1), (7, 0, 2)], ((5, -1), (7, 0, True)), ((5, -1), ()), ((5, -1), 7),
            ((5, -1.0), (7, 0, 2)),
        ):
            self.refuse(BadPaper, lambda: check_fit(self.lengths, self.row, ("loops", thing)), part="loops")
        self.refuse(BadPaper, lambda: check_fit((1,), (1,), ("loops", ((True,),))), part="loops")

    def test_loops_with_other_lengths(self):
        for loops in (
            self.loops[::-1], self.loops + ((0,),), self.loops[:1], (), ((5, -1), (7, 0, 2, 7, 0, 2)),
            ((5, -1, 5, -1), (7, 0, 2)), ((5, -1, 5, -1, 5, -1), (7, 0, 2)),
        ):
            self.refuse(BadPaper, lambda: check_fit(self.lengths, self.row, ("loops", loops)), part="loops")
        self.refuse(BadPaper, lambda: check_fit((2,), (0,), ("loops", ((0,) * 64,))), part="loops")
        self.refuse(BadPaper, lambda: check_fit((), (), ("loops", ((0,),))), part="loops")

    def test_loops_that_are_heard_otherwise(self):
        for tick in range(6):
            row = self.row[:tick] + (self.row[tick] + 1,) + self.row[tick + 1:]
            self.refuse(BadPaper, lambda: check_fit(self.lengths, row, ("loops", self.loops)), part="loops")
        self.refuse(BadPaper, lambda: check_fit((), (0, 1), ("loops", ())), part="loops")
        row = heard_row(self.loops, 0, 200)
        self.assertEqual(check_fit(self.lengths, row, ("loops", self.loops)), "loops")
        row = row[:-1] + (row[-1] - 1,)
        self.refuse(BadPaper, lambda: check_fit(self.lengths, row, ("loops", self.loops)), part="loops")

    def test_grounds_that_are_none(self):
        for ground in NO_TUPLES + (
            # No tuple of integers.
            [0, -1, -1, 0, 1, 1], (False, -1, -1, False, 1, 1), (0, -1, -1, 0, True, 1), (0, -1, -1, 0, 1, 1.0),
            (0, -1, -1, 0, 1, None),
            # More integers than the row has.
            (0, -1, -1, 0, 1, 1, 0), (0, -1, -1, 0, 1, 1) + (0,) * 10 ** 5,
            # With a sum other than 0 for 2, for 3 and for both.
            (-1, 0, 0, 1, 0, 0), (0, 0, 0, -1, 0, 1), (0, -1, -1, 0, 1, 2), (0, 0, 0, 0, 0, 1),
            # With nothing left of the row.
            (), (0,) * 6, (-1, -1, 0, 1, 1), (-1, -1, 0, 1, 1, 0),
        ):
            self.refuse(BadPaper, lambda: check_fit(self.lengths, self.wrong, ("none", ground)), part="ground")

    def test_no_ground_of_a_row_that_is_heard(self):
        for ground in ((0, -1, -1, 0, 1, 1), (-1, -1, 0, 1, 1, 0), (5, 6, 1, -5, -6, -1)):
            self.refuse(BadPaper, lambda: check_fit(self.lengths, self.row, ("none", ground)), part="ground")
        self.refuse(BadPaper, lambda: check_fit((), (0, 0), ("none", (1, 1))), part="ground")
        self.refuse(BadPaper, lambda: check_fit((), (), ("none", ())), part="ground")

    def test_what_fit_tells_with_one_part_spoiled(self):
        chance = random.Random(15)
        for lengths in ((4, 6), (6, 10, 15), GREATEST):
            row = heard_row(some_loops(chance, lengths), 0, 200)
            paper = fit(lengths, row)
            for at, loop in enumerate(paper[1]):
                for index in range(len(loop)):
                    spoiled = loop[:index] + (loop[index] + 1,) + loop[index + 1:]
                    loops = paper[1][:at] + (spoiled,) + paper[1][at + 1:]
                    self.refuse(BadPaper, lambda: check_fit(lengths, row, ("loops", loops)), part="loops")
            self.refuse(BadPaper, lambda: check_fit(lengths, row, ("none", paper[1])), part="ground")
            row = row[:170] + (row[170] + 1,) + row[171:]
            self.refuse(BadPaper, lambda: check_fit(lengths, row, paper), part="loops")
            paper = fit(lengths, row)
            self.assertEqual(len(paper[1]), 171)
            for at in range(171):
                ground = paper[1][:at] + (paper[1][at] + 1,) + paper[1][at + 1:]
                self.refuse(BadPaper, lambda: check_fit(lengths, row, ("none", ground)), part="ground")
            self.refuse(BadPaper, lambda: check_fit(lengths, row, ("loops", paper[1])), part="loops")

    def test_the_weights_are_a_ground_wherever_they_fail(self):
        row = heard_row(self.loops, 0, 20)
        row = row[:10] + (row[10] + 1,) + row[11:]
        for ahead in range(16):
            ground = (0,) * ahead + weights(self.lengths)
            if sum(one * other for one, other in zip(ground, row)):
                self.assertEqual(check_fit(self.lengths, row, ("none", ground)), "none")
            else:
                self.refuse(BadPaper, lambda: check_fit(self.lengths, row, ("none", ground)), part="ground")


class Deceiver(Test):
    def check(self, lengths):
        loops = deceiver(lengths)
        self.assertIs(need_loops(loops), loops)
        self.assertEqual(lengths_of(loops), lengths)
        first = span(lengths)
        self.assertEqual(heard_row(loops, 0, first), (0,) * (first - 1) + (1,), lengths)

    def test_one_length(self):
        for length in range(1, 25):
            self.assertEqual(deceiver((length,)), ((0,) * (length - 1) + (1,),))

    def test_all_pairs(self):
        for lengths in itertools.product(range(1, 25), repeat=2):
            self.check(lengths)

    def test_lengths_at_the_bounds(self):
        for lengths in AT_BOUNDS:
            for order in sorted(set(itertools.permutations(lengths))):
                self.check(order)

    def test_lengths_with_common_divisors(self):
        for lengths in itertools.product((6, 10, 15, 12, 20), repeat=3):
            self.check(lengths)
        for lengths in ((2, 4, 8, 16), (16, 8, 4, 2), (12, 18, 24, 8), (6, 10, 15, 14), (24, 12, 24, 6)):
            self.check(lengths)

    def test_chance_lengths(self):
        chance = random.Random(16)
        for turn in range(150):
            self.check(tuple(chance.randint(1, 24) for length in range(chance.randint(3, 4))))

    def test_of_no_lengths_there_is_none(self):
        self.refuse(OutOfPlace, lambda: deceiver(()))


class Calls(Test):
    def test_by_name(self):
        self.assertEqual(fit(row=(4, 4), lengths=(1,)), ("loops", ((4,),)))
        self.assertEqual(check_fit(paper=("loops", ((4,),)), row=(4, 4), lengths=(1,)), "loops")
        self.assertEqual(deceiver(lengths=(2,)), ((0, 1),))

    def test_equal_calls_tell_the_same_and_change_nothing(self):
        chance = random.Random(17)
        for lengths in AT_BOUNDS:
            row = heard_row(some_loops(chance, lengths), 0, 120)
            for told in (row, row[:-1] + (row[-1] + 1,)):
                kept = copy.deepcopy((lengths, told))
                paper = fit(lengths, told)
                self.assertTrue(fit(lengths, told) == paper)
                self.assertEqual(check_fit(lengths, told, paper), check_fit(lengths, told, paper))
                self.assertTrue((lengths, told) == kept)
            self.assertEqual(deceiver(lengths), deceiver(lengths))

    def test_what_is_refused_is_not_changed(self):
        row, ground = [1, 2], [0, 0]
        self.refuse(OutOfPlace, lambda: fit((2,), row))
        self.refuse(BadPaper, lambda: check_fit((2,), (1, 2), ("none", ground)), part="ground")
        self.assertEqual((row, ground), ([1, 2], [0, 0]))

    def test_the_greatest_ones_in_a_short_time(self):
        begun = time.process_time()
        for lengths in itertools.permutations(GREATEST):
            loops = tuple((GREAT, -GREAT) + (at,) * (length - 2) for at, length in enumerate(lengths))
            row = heard_row(loops, 0, 200)
            self.assertEqual(check_fit(lengths, row, fit(lengths, row)), "loops")
            row = row[:-1] + (row[-1] - 1,)
            self.assertEqual(check_fit(lengths, row, fit(lengths, row)), "none")
            deceiver(lengths)
        # Far more than it takes, so that a slow machine does not fail it.
        self.assertLess(time.process_time() - begun, 10)


if __name__ == "__main__":
    unittest.main()
