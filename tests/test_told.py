"""told.py: point [16], and point [1] as far as told.py keeps it."""

import copy
import fractions
import random
import time
import unittest
import unittest.mock

from pedalrounds.errors import BadPaper, BadRow, OutOfPlace, TooGreat
from pedalrounds.shares import shares
from pedalrounds.told import all_told, check_told, told_back
from models import chance_row, chance_sound, heard_of_row, presses_of, shares_by_units
from wrongs import GREAT, NO_INTEGERS, NO_NUMBERS_OF_TRACKS, NO_PRESSES, NO_ROWS, NO_TUPLES, TAP, Refusals

TAPPED = (TAP,)
EXAMPLE = (TAPPED, TAPPED)
LONG = ((),) * 31
# The samples 0 and 1 are recorded, 3 is laid over 1, and 2 and 4 are taken in by nothing.
MIXED = (TAPPED, (), TAPPED, (TAP, ("turn", 0)), TAPPED)
# The first three samples lie in one cell and are never heard apart.
THREE = (TAPPED, (TAP, TAP, ("mute", 0)), (), (("mute", 0),))
NO_FORMS = NO_TUPLES + (
    (), ("told",), ("hidden",), ("told", ()), ("told", (), 1, 1), ("hidden", (0, 1), 1), ("hidden", (), (), ()),
    ("Told", ((1, 1),), 1), ("tolds", ((1, 1),), 1), (b"told", ((1, 1),), 1), (("told",), ((1, 1),), 1), (None, (0, 1)),
    ("told", ((1, 1),)), (((1, 1),), "told", 1), ((0, 1), "hidden"), ["told", ((1, 1),), 1], ["hidden", (0, 1)],
    ("", (0, 1)), ("loops", (0, 1)), ("tick", 0), (unittest.mock.ANY, (0, 1)), (unittest.mock.ANY, ((1, 1),), 1),
    ("hidden", ((1, 1),), 1), ("told", (0, 1)),
)


def put(row, at, thing):
    return row[:at] + (thing,) + row[at + 1:]


def rank(lines):
    """How many of the lines are free of one another, found by elimination over fractions."""
    table = [[fractions.Fraction(thing) for thing in line] for line in lines]
    done = 0
    for column in range(len(table[0]) if table else 0):
        found = [at for at in range(done, len(table)) if table[at][column]]
        if found:
            table[done], table[found[0]] = table[found[0]], table[done]
            for at in range(done + 1, len(table)):
                times = table[at][column] / table[done][column]
                if times:
                    table[at] = [one - times * other for one, other in zip(table[at], table[done])]
            done += 1
    return done


def told_by_rank(tracks, row, ticks):
    """The indexes whose samples are told: those that make the rank of all SHARES less if they are left out."""
    lines = sorted(set(shares_by_units(tracks, row, ticks)))
    whole = rank(lines)
    return tuple(at for at in range(len(row)) if rank([line[:at] + line[at + 1:] for line in lines]) < whole)


class Test(Refusals):
    def bad(self, part, tracks, row, index, paper):
        self.refuse(BadPaper, lambda: check_told(tracks, row, index, paper), part=part)

    def check_paper(self, tracks, row, index):
        """That the paper that is told is one as the document says, and holds."""
        paper = told_back(tracks, row, index)
        self.assertIs(type(paper), tuple)
        if paper[0] == "told":
            word, factors, divisor = paper
            self.assertIs(type(factors), tuple)
            self.assertEqual([type(pair) for pair in factors], [tuple] * len(factors))
            ticks = [tick for tick, factor in factors]
            self.assertEqual(ticks, sorted(set(ticks)))
            sums = [0] * len(row)
            for tick, factor in factors:
                self.assertEqual((type(tick), type(factor)), (int, int))
                self.assertTrue(0 <= tick <= 10 ** 30)
                self.assertNotEqual(factor, 0)
                sums = [total + factor * share for total, share in zip(sums, shares(tracks, row, tick))]
            self.assertIs(type(divisor), int)
            self.assertGreaterEqual(divisor, 1)
            self.assertEqual(sums, [divisor * (at == index) for at in range(len(row))])
        else:
            word, sound = paper
            self.assertEqual(word, "hidden")
            self.assertIs(type(sound), tuple)
            self.assertEqual([type(sample) for sample in sound], [int] * len(row))
            self.assertNotEqual(sound[index], 0)
            self.assertEqual(set(heard_of_row(tracks, row, sound, 800)), {0})
        self.assertEqual(check_told(tracks, row, index, paper), paper[0])
        return paper


class ToldBack(Test):
    def test_the_example(self):
        self.assertEqual(self.check_paper(1, EXAMPLE, 0)[0], "told")
        self.assertEqual(self.check_paper(1, EXAMPLE, 1)[0], "hidden")
        self.assertEqual(check_told(1, EXAMPLE, 0, ("told", ((1, 1),), 1)), "told")
        self.assertEqual(check_told(1, EXAMPLE, 1, ("hidden", (0, 1))), "hidden")
        self.assertEqual(all_told(1, EXAMPLE), (0,))

    def test_a_row_without_any_press(self):
        for tracks in range(1, 5):
            for many in (1, 2, 30):
                row = ((),) * many
                self.assertEqual(all_told(tracks, row), ())
                for index in range(many):
                    self.assertEqual(self.check_paper(tracks, row, index)[0], "hidden")

    def test_by_hand(self):
        for tracks, row, told in (
            (1, (TAPPED,), (0,)), (1, (TAPPED, ()), (0, 1)), (1, ((), TAPPED), (1,)), (1, (TAPPED,) * 2, (0,)),
            (1, (TAPPED, (), TAPPED), (0, 1)), (1, (TAPPED, (), (("stop", 0),)), ()),
            (1, (TAPPED, (), (TAP, TAP)), (0, 1, 2)), (1, (TAPPED, (), (TAP, TAP), (("undo", 0),)), (0, 1)),
            (1, (TAPPED, (TAP, ("mute", 0))), ()), (1, (TAPPED, (), (("clear", 0),)), ()), (1, MIXED, (0, 1, 3)),
            (2, (TAPPED, (TAP, ("tap", 1)), (("tap", 1),)), (0, 1)), (1, (), ()), (1, THREE, (3,)),
        ):
            self.assertEqual(all_told(tracks, row), told, row)
            for index in range(len(row)):
                self.assertEqual(self.check_paper(tracks, row, index)[0], "told" if index in told else "hidden")

    def test_samples_that_are_never_heard_apart(self):
        for index in range(3):
            word, sound = self.check_paper(1, THREE, index)
            self.assertEqual(word, "hidden")
            self.assertEqual((sum(sound), sound[3]), (0, 0))
        self.assertEqual(self.check_paper(1, THREE, 3)[0], "told")

    def test_more_than_one_tick_is_needed(self):
        # At each tick two loops are heard together, of which each one has both signs in turn.
        row = ((("tap", 0), ("tap", 1)), (), (("tap", 0),), (("tap", 1), ("flip", 0)), (), (), (("mute", 0),))
        for index in (0, 1):
            paper = self.check_paper(2, row, index)
            self.assertEqual(paper[0], "told")

    def test_sounds_that_need_a_multiple(self):
        # Each TRACK has the first sample in its one cell, but not each one the second sample.
        for tracks, dubs in ((2, 1), (3, 1), (3, 2)):
            every = tuple(("tap", number) for number in range(tracks))
            mutes = tuple(("mute", number) for number in range(tracks))
            for sign, flips in ((1, ()), (-1, tuple(("flip", number) for number in range(tracks)))):
                row = (every, every + mutes + every[:dubs], every[:dubs] + mutes + flips, ())
                self.assertEqual(shares(tracks, row, 1), (0, 0, 0, 0))
                self.assertEqual(shares(tracks, row, 2), (sign * tracks, sign * dubs, 0, 0))
                for index in range(4):
                    self.assertEqual(self.check_paper(tracks, row, index)[0], "hidden")
                sound = told_back(tracks, row, 0)[1]
                self.assertEqual(sound[0] * tracks, -sound[1] * dubs)

    def test_all_samples_are_told_ahead_of_the_last_ticks(self):
        row = ((("tap", 0), ("tap", 1)), (("tap", 0), ("tap", 1), ("tap", 0)))
        self.assertEqual(all_told(2, row), (0, 1))
        self.assertEqual(self.check_paper(2, row, 1), ("told", ((1, -1), (2, 1)), 1))

    def test_divisors_above_1(self):
        # The sample is heard 4 times at once.
        taps = tuple(("tap", number) for number in range(4))
        paper = self.check_paper(4, (taps, taps, ()), 0)
        self.assertEqual(sum(factor for tick, factor in paper[1]) * 4, paper[2])
        self.assertEqual(check_told(4, (taps, taps, ()), 0, ("told", ((1, 1),), 4)), "told")
        self.assertEqual(check_told(4, (taps, taps, ()), 0, ("told", ((1, 2), (10 ** 30, 3)), 20)), "told")
        self.bad("factors", 4, (taps, taps, ()), 0, ("told", ((1, 1),), 1))

    def test_each_index_of_many_rows(self):
        chance = random.Random(71)
        words = {"told": 0, "hidden": 0}
        helped = 0
        for turn in range(150):
            tracks = chance.randint(1, 4)
            row = chance_row(chance, tracks, chance.randint(1, 14), 3)
            told = all_told(tracks, row)
            for index in range(len(row)):
                paper = self.check_paper(tracks, row, index)
                self.assertEqual(paper[0] == "told", index in told)
                words[paper[0]] += 1
                helped += sum(map(bool, paper[1])) > 1
        self.assertGreater(min(words.values()), 200)
        self.assertGreater(helped, 50)

    def test_against_ranks(self):
        chance = random.Random(72)
        for turn in range(60):
            tracks = chance.randint(1, 3)
            row = chance_row(chance, tracks, chance.randint(1, 9), 3)
            self.assertEqual(all_told(tracks, row), told_by_rank(tracks, row, 330), row)

    def test_what_a_paper_says_holds_of_sounds(self):
        chance = random.Random(73)
        for turn in range(40):
            tracks = chance.randint(1, 3)
            row = chance_row(chance, tracks, 12, 3)
            sound = chance_sound(chance, 12, 10 ** 6)
            heard = heard_of_row(tracks, row, sound, 400)
            for index in range(12):
                paper = told_back(tracks, row, index)
                if paper[0] == "told":
                    total = sum(factor * heard[tick] for tick, factor in paper[1])
                    self.assertEqual(total, paper[2] * sound[index])
                else:
                    other = tuple(one + two for one, two in zip(sound, paper[1]))
                    self.assertEqual(heard_of_row(tracks, row, other, 400), heard)

    def test_rows_of_30_steps_in_a_short_time(self):
        chance = random.Random(74)
        begun = time.process_time()
        rows = [(4, tuple(tuple(chance.choice(presses_of(4)) for press in range(8)) for step in range(30)))]
        rows += [(tracks, chance_row(chance, tracks, 30, most)) for tracks in range(1, 5) for most in (0, 1, 2, 4)]
        rows += [(4, (tuple(("tap", number) for number in range(4)),) + ((),) * 29)]
        rows += [(4, tuple((("tap", at % 4), ("pace", (at * 3) % 4, 1)) for at in range(30)))]
        for tracks, row in rows:
            told = all_told(tracks, row)
            for index in (0, 7, 29):
                self.assertEqual(self.check_paper(tracks, row, index)[0] == "told", index in told)
        # Far more than it takes, so that a slow machine does not fail it.
        self.assertLess(time.process_time() - begun, 20)

    def test_all_samples_of_the_longest_row_are_told(self):
        row = (TAPPED,) + ((),) * 29
        self.assertEqual(all_told(1, row), tuple(range(30)))
        for index in range(30):
            word, factors, divisor = self.check_paper(1, row, index)
            self.assertEqual(word, "told")

    def test_wrong_indexes(self):
        for call in (told_back, lambda tracks, row, index: check_told(tracks, row, index, ("hidden", (0, 1)))):
            for index in NO_INTEGERS + (-1, -2, 2, 3, GREAT, -GREAT):
                self.refuse(OutOfPlace, lambda: call(1, EXAMPLE, index))
            for index in (0, -1, None):
                self.refuse(OutOfPlace, lambda: call(1, (), index))


class CheckTold(Test):
    def test_its_word(self):
        self.assertEqual(check_told(1, EXAMPLE, 0, ("told", ((1, 1),), 1)), "told")
        self.assertEqual(check_told(1, EXAMPLE, 1, ("hidden", (0, 1))), "hidden")

    def test_other_papers_that_hold(self):
        for factors, divisor in (
            (((2, 1),), 1), (((1, -1), (2, 2)), 1), (((1, 3), (2, 4)), 7), (((0, 5), (1, 1)), 1), (((10 ** 30, 1),), 1),
            (((0, -1), (1, GREAT), (5, 1 - GREAT)), 1), (((1, GREAT),), GREAT),
            (tuple((tick, 1) for tick in range(500)), 499),
        ):
            self.assertEqual(check_told(1, EXAMPLE, 0, ("told", factors, divisor)), "told")
        for sample in (1, -1, 7, GREAT, -GREAT):
            self.assertEqual(check_told(1, EXAMPLE, 1, ("hidden", (0, sample))), "hidden")
        for sound in ((1, -1, 0, 0), (5, -2, -3, 0), (-GREAT, 0, GREAT, 0)):
            self.assertEqual(check_told(1, THREE, 0, ("hidden", sound)), "hidden")
        for sound in ((1, 1, 0, 0), (5, -2, -3, 1), (0, 1, -1, 0)):
            self.bad("sound", 1, THREE, 0, ("hidden", sound))
        self.assertEqual(check_told(1, THREE, 3, ("told", ((3, -1), (4, 1)), 1)), "told")

    def test_far_ticks(self):
        # The first of 3 cells is heard again 3 ticks later, and so on.
        row = (TAPPED, (), (), TAPPED)
        for tick in (3, 6, 3 * 10 ** 29, 999 * 10 ** 27):
            self.assertEqual(check_told(1, row, 0, ("told", ((tick, 1),), 1)), "told")
            for other in (tick + 1, tick - 1):
                self.bad("factors", 1, row, 0, ("told", ((other, 1),), 1))
        self.assertEqual(check_told(1, row, 1, ("told", ((10 ** 30, 1),), 1)), "told")

    def test_what_is_no_paper(self):
        for paper in NO_FORMS:
            self.bad("form", 1, EXAMPLE, 0, paper)
            self.bad("form", 1, EXAMPLE, 1, paper)

    def test_the_form_is_one_of_whatever_things(self):
        for thing in NO_INTEGERS + NO_TUPLES:
            self.bad("factors", 1, EXAMPLE, 0, ("told", thing, 1))
            self.bad("factors", 1, EXAMPLE, 0, ("told", thing, thing))
            self.bad("sound", 1, EXAMPLE, 1, ("hidden", thing))

    def test_wrong_divisors(self):
        for divisor in NO_INTEGERS + (0, -1, 2, GREAT, -GREAT):
            self.bad("factors", 1, EXAMPLE, 0, ("told", ((1, 1),), divisor))
        self.bad("factors", 1, EXAMPLE, 0, ("told", ((1, -1),), -1))
        self.bad("factors", 1, EXAMPLE, 0, ("told", ((0, 1),), 0))
        self.bad("factors", 1, EXAMPLE, 0, ("told", (), 0))
        self.bad("factors", 1, EXAMPLE, 1, ("told", ((1, 1),), 1))

    def test_wrong_factors(self):
        for factors in (
            (), ((0, 1),), ((1, 2),), ((1, 0),), ((1, 1), (2, 0)), ((0, 0), (1, 1)), ((1, 1), (1, 1)), ((2, 1), (1, 0)),
            ((-1, 1),), ((10 ** 30 + 1, 1),), ((1, 1), (10 ** 30 + 1, 0)), ((GREAT, 1),), ((1, 1), (2, 1)), (1, 1),
            ((1, 1, 1),), ((1,),), ([1, 1],), [(1, 1)], (((1, 1),),), ((1, 1), None), {1: 1}, "11", ((1, 1), ()),
        ):
            self.bad("factors", 1, EXAMPLE, 0, ("told", factors, 1))
        # These add up, but for their order or a TICK twice.
        for factors, divisor in (
            (((2, 1), (1, 1)), 2), (((1, 1), (1, 1)), 2), (((1, 2), (1, -1)), 1), (((3, 1), (2, 1), (1, -1)), 1),
            (((1, 1), (3, 1), (2, -1)), 1), (((0, 1), (1, 1), (1, 1), (2, -1)), 1), (((2, 1), (0, 7)), 1),
            (((10 ** 30, 1), (10 ** 30 + 1, 1)), 2), (((-1, 1), (1, 1)), 1), (((1, 1), (2, 0)), 1), (((0, 0), (1, 1)), 1),
            (((1, True),), 1), (((True, 1),), 1), (((1, 1),), True), (((False, 1), (1, 1)), 1),
        ):
            self.bad("factors", 1, EXAMPLE, 0, ("told", factors, divisor))

    def test_factors_of_other_kinds(self):
        for wrong in NO_INTEGERS:
            self.bad("factors", 1, EXAMPLE, 0, ("told", ((1, wrong),), 1))
            self.bad("factors", 1, EXAMPLE, 0, ("told", ((wrong, 1),), 1))
            self.bad("factors", 1, EXAMPLE, 0, ("told", ((0, 1), (1, wrong)), 1))

    def test_what_else_is_added_up(self):
        row = (TAPPED, (), TAPPED)
        self.assertEqual(check_told(1, row, 0, ("told", ((2, 1),), 1)), "told")
        for factors in (((2, 1), (3, 1)), ((3, 1),), ((2, 1), (3, -1)), ((2, 2), (4, -1), (5, 1))):
            self.bad("factors", 1, row, 0, ("told", factors, 1))
        self.assertEqual(check_told(1, row, 0, ("told", ((2, 2), (3, 1), (4, -1), (5, -1)), 1)), "told")

    def test_wrong_sounds(self):
        for sound in (
            (0, 0), (1, 1), (1, 0), (-1, 1), (0,), (), (0, 1, 0), (0, 1, 1), [0, 1], ((0, 1),), (0, None), (None, 1), "01",
        ):
            self.bad("sound", 1, EXAMPLE, 1, ("hidden", sound))
        for wrong in NO_INTEGERS:
            self.bad("sound", 1, EXAMPLE, 1, ("hidden", (0, wrong)))
            self.bad("sound", 1, EXAMPLE, 1, ("hidden", (wrong, 1)))
        # It holds for the index 1 alone.
        self.bad("sound", 1, EXAMPLE, 0, ("hidden", (0, 1)))

    def test_sounds_that_are_heard_late(self):
        for many in (1, 2, 29, 30):
            row = (TAPPED,) + ((),) * (many - 1)
            for index in range(many):
                sound = tuple(int(at == index) for at in range(many))
                self.bad("sound", 1, row, index, ("hidden", sound))
        row = (TAPPED,) + ((),) * 20 + (TAPPED,)
        for index in range(21):
            self.bad("sound", 1, row, index, ("hidden", tuple(int(at == index) for at in range(22))))
        self.assertEqual(check_told(1, row, 21, ("hidden", (0,) * 21 + (1,))), "hidden")

    def test_papers_with_one_part_spoiled(self):
        chance = random.Random(75)
        spoiled = {"factors": 0, "sound": 0}
        for turn in range(60):
            tracks = chance.randint(1, 3)
            row = chance_row(chance, tracks, 10, 3)
            index = chance.randrange(10)
            paper = told_back(tracks, row, index)
            if paper[0] == "told":
                word, factors, divisor = paper
                wrong = [(factors, divisor + 1), (factors, -divisor), (factors[1:], divisor), (factors[::-1] * 2, divisor)]
                for at, (tick, factor) in enumerate(factors):
                    wrong += [(put(factors, at, (tick, factor + more)), divisor) for more in (-1, 1, 10 ** 40)]
                    wrong += [(put(factors, at, thing), divisor) for thing in (None, [tick, factor], (tick,), tick)]
                for thing in wrong:
                    self.bad("factors", tracks, row, index, (word,) + thing)
                    spoiled["factors"] += 1
            else:
                word, sound = paper
                wrong = [put(sound, index, 0), sound[1:], sound + (0,), list(sound), put(sound, index, None)]
                told = all_told(tracks, row)
                wrong += [put(sound, at, sound[at] + more) for at in told for more in (-1, 1, GREAT)]
                for thing in wrong:
                    self.bad("sound", tracks, row, index, (word, thing))
                    spoiled["sound"] += 1
        self.assertGreater(min(spoiled.values()), 80)

    def test_papers_stand_behind_all_other_arguments(self):
        for paper in (None, (), ("told", (), 1), ("hidden", None)):
            self.refuse(OutOfPlace, lambda: check_told(0, EXAMPLE, 0, paper))
            self.refuse(BadRow, lambda: check_told(1, None, 0, paper), place=())
            self.refuse(TooGreat, lambda: check_told(1, LONG, 0, paper), most=30)
            self.refuse(OutOfPlace, lambda: check_told(1, EXAMPLE, 2, paper))
            self.refuse(OutOfPlace, lambda: check_told(paper=paper, index=True, row=EXAMPLE, tracks=1))


class AllTold(Test):
    def test_the_row_without_steps(self):
        for tracks in range(1, 5):
            self.assertEqual(all_told(tracks, ()), ())

    def test_ascending_indexes(self):
        chance = random.Random(76)
        for turn in range(30):
            told = all_told(4, chance_row(chance, 4, 30, 2))
            self.assertIs(type(told), tuple)
            self.assertEqual(list(told), sorted(set(told)))
            self.assertLessEqual({type(index) for index in told}, {int})


class Refused(Test):
    def calls(self, tracks, row):
        return (
            lambda: told_back(tracks, row, 0), lambda: told_back(tracks, row, None),
            lambda: check_told(tracks, row, 0, ("hidden", (1,))), lambda: check_told(tracks, row, None, None),
            lambda: all_told(tracks, row), lambda: all_told(row=row, tracks=tracks),
        )

    def test_no_rows(self):
        for row, place in NO_ROWS:
            for call in self.calls(1, row):
                self.refuse(BadRow, call, place=place)
        for press in NO_PRESSES:
            for call in self.calls(4, LONG + ((press,),)):
                self.refuse(BadRow, call, place=(31, 0))

    def test_wrong_numbers_of_tracks(self):
        for tracks in NO_NUMBERS_OF_TRACKS:
            for row in (EXAMPLE, LONG, None):
                for call in self.calls(tracks, row):
                    self.refuse(OutOfPlace, call)

    def test_31_steps_are_too_many(self):
        for row in (LONG, (TAPPED,) * 31, ((),) * 60, ((),) * 61, ((),) * 200):
            for call in self.calls(1, row):
                self.refuse(TooGreat, call, most=30)
        self.assertEqual(all_told(1, LONG[:30]), ())

    def test_the_row_is_one_for_so_many_tracks(self):
        row = ((("tap", 1),),)
        for call in self.calls(1, row):
            self.refuse(BadRow, call, place=(0, 0))
        self.assertEqual(all_told(2, row), (0,))


class Calls(Test):
    def test_by_name(self):
        self.assertEqual(told_back(index=1, row=EXAMPLE, tracks=1)[0], "hidden")
        self.assertEqual(check_told(paper=("hidden", (0, 1)), index=1, row=EXAMPLE, tracks=1), "hidden")
        self.assertEqual(all_told(row=EXAMPLE, tracks=1), (0,))

    def test_equal_calls_tell_the_same_and_change_nothing(self):
        chance = random.Random(77)
        for turn in range(20):
            row = chance_row(chance, 3, 15)
            kept = copy.deepcopy(row)
            self.assertEqual(all_told(3, row), all_told(3, row))
            for index in range(15):
                paper = told_back(3, row, index)
                self.assertEqual(told_back(3, copy.deepcopy(row), index), paper)
                self.assertEqual(check_told(3, row, index, paper), check_told(3, row, index, paper))
            self.assertEqual(row, kept)

    def test_what_is_refused_is_not_changed(self):
        factors, sound = [(1, 1)], [0, 1]
        self.bad("factors", 1, EXAMPLE, 0, ("told", factors, 1))
        self.bad("sound", 1, EXAMPLE, 1, ("hidden", sound))
        self.assertEqual((factors, sound), ([(1, 1)], [0, 1]))


if __name__ == "__main__":
    unittest.main()
