"""live.py: a Live that goes on, points [9] to [12] beneath it, and point [1] as far as live.py keeps it."""

import copy
import itertools
import random
import time
import unittest

from pedalrounds.errors import BadPedal, Nothing, OutOfPlace, TooGreat
from pedalrounds.live import Live
from pedalrounds.pedals import EMPTY, empty_pedal, is_idle, need_pedal
from pedalrounds.plays import need_row, played
from models import WORDS, chance_pedal, chance_row, chance_sound, presses_of
from wrongs import GREAT, NO_INTEGERS, NO_NUMBERS_OF_TRACKS, NO_PEDALS, NO_TUPLES, TAP, Refusals

PLAY = ("play", ((5, 7),), (), 0, 1, 2, 1, False)
ROW = ((TAP,), (), (TAP,), (TAP, ("undo", 0), ("undo", 0)), ())
SOUND = (5, 7, 1, 2, 0)
NO_WORDS = NO_TUPLES + ("Tap", "tap ", "play", "record", "take", "", ("tap",), (), "pace", "no")
NO_PACES = (True, False, 0, 3, 5, 8, -1, -2, GREAT, 1.0, 2.0, "2", (2,), [], object())


def do(live, press):
    word, track, *paces = press
    return live.press(word, track, pace=paces[0]) if paces else live.press(word, track)


def lead(live, row, sound):
    """What is heard of a live that is led through a ROW with a SOUND."""
    told = []
    for step, sample in zip(row, sound):
        for press in step:
            do(live, press)
        told.append(live(sample))
    return told


def state(live):
    return (live.pedal, live.row, live.sound, live.heard, len(live))


class Test(Refusals):
    def unchanged(self, live, error, call, **fields):
        """That the call is refused, and that the live goes on as if it had not been made."""
        before, other = state(live), live.copy()
        self.refuse(error, call, **fields)
        self.assertEqual(state(live), before)
        self.assertTrue(live == other)
        one, two = live.copy(), other
        if len(one) < 200:
            self.assertEqual((one(3), state(one)), (two(3), state(two)))


class Begin(Test):
    def test_so_many_empty_tracks(self):
        self.assertEqual(state(Live()), ((EMPTY,), (), (), (), 0))
        for tracks in range(1, 5):
            self.assertEqual(state(Live(tracks)), ((EMPTY,) * tracks, (), (), (), 0))
            self.assertEqual(state(Live(tracks=tracks)), state(Live(tracks)))
            self.assertEqual(state(Live(tracks, pedal=None)), state(Live(tracks)))

    def test_from_a_pedal(self):
        chance = random.Random(111)
        for tracks in range(1, 5):
            for turn in range(10):
                pedal = chance_pedal(chance, tracks)
                self.assertEqual(state(Live(tracks, pedal=pedal)), (pedal, (), (), (), 0))
        self.assertEqual(Live(pedal=(PLAY,)).pedal, (PLAY,))
        self.assertEqual(Live(pedal=(PLAY,))(1), 5)

    def test_a_pedal_of_another_number_of_tracks(self):
        for tracks, other in itertools.permutations(range(1, 5), 2):
            self.refuse(OutOfPlace, lambda: Live(tracks, pedal=empty_pedal(other)))
        # One TRACK is meant where no number is told.
        for other in (2, 3, 4):
            self.refuse(OutOfPlace, lambda: Live(pedal=empty_pedal(other)))

    def test_wrong_arguments_in_their_order(self):
        for tracks in NO_NUMBERS_OF_TRACKS:
            for pedal in (None, (EMPTY,), (), 7):
                self.refuse(OutOfPlace, lambda: Live(tracks, pedal=pedal))
                self.refuse(OutOfPlace, lambda: Live(pedal=pedal, tracks=tracks))
        for pedal, place in NO_PEDALS:
            if pedal is not None:
                for tracks in (1, 2, 4):
                    self.refuse(BadPedal, lambda: Live(tracks, pedal=pedal), place=place)

    def test_the_pedal_is_told_by_its_name_alone(self):
        with self.assertRaises(TypeError):
            Live(1, (EMPTY,))


class Ticks(Test):
    def test_by_hand(self):
        live = Live()
        self.assertIs(live.press("tap", 0), True)
        self.assertEqual((live(5), live(7)), (0, 0))
        live.press("tap", 0)
        self.assertEqual(live(1), 5)
        self.assertEqual(live.pedal, (PLAY[:3] + (2,) + PLAY[4:],))
        self.assertEqual(live.row, ((TAP,), (), (TAP,)))
        self.assertEqual((live.sound, live.heard, len(live)), ((5, 7, 1), (0, 0, 5), 3))

    def test_against_played(self):
        chance = random.Random(112)
        for turn in range(40):
            begun = chance_pedal(chance) if turn % 2 else empty_pedal(chance.randint(1, 4))
            row = chance_row(chance, len(begun), 60, 6, 3)
            sound = chance_sound(chance, 60)
            live = Live(len(begun), pedal=begun)
            for many, (step, sample) in enumerate(zip(row, sound)):
                for press in step:
                    idle = is_idle(live.pedal, press)
                    self.assertIs(do(live, press), not idle)
                live(sample)
                heard, behind = played(row[:many + 1], sound[:many + 1], pedal=begun)
                self.assertEqual(state(live), (behind, row[:many + 1], sound[:many + 1], heard, many + 1))

    def test_presses_behind_the_last_tick(self):
        live = Live()
        lead(live, ROW, SOUND)
        before = live.pedal
        self.assertIs(live.press("flip", 0), True)
        self.assertEqual(live.row, ROW)
        self.assertEqual((live.sound, len(live)), (SOUND, 5))
        self.assertNotEqual(live.pedal, before)
        self.assertEqual(live(0), -played(ROW + ((),), SOUND + (0,))[0][-1])
        self.assertEqual(live.row, ROW + ((("flip", 0),),))

    def test_samples_of_any_digits(self):
        live = Live()
        live.press("tap", 0)
        live(GREAT)
        live.press("tap", 0)
        self.assertEqual(live(-GREAT), GREAT)
        self.assertEqual(live.sound, (GREAT, -GREAT))

    def test_wrong_samples(self):
        live = Live(2)
        lead(live, ROW, SOUND)
        live.press("tap", 1)
        for sample in NO_INTEGERS:
            self.unchanged(live, OutOfPlace, lambda: live(sample))

    def test_200_ticks_and_one_more(self):
        live = Live()
        live.press("tap", 0)
        for tick in range(200):
            self.assertEqual(len(live), tick)
            self.assertEqual(live(tick), 0 if tick < 64 else (tick - 64) % 64)
        self.assertEqual(len(live), 200)
        self.assertIs(need_row(1, live.row), live.row)
        for turn in range(3):
            self.unchanged(live, TooGreat, lambda: live(1), most=200)
        for sample in NO_INTEGERS:
            self.unchanged(live, OutOfPlace, lambda: live(sample))
        # PRESSes are still done.
        self.assertIs(live.press("mute", 0), True)
        self.assertIs(live.pedal[0][7], True)
        self.unchanged(live, TooGreat, lambda: live(1), most=200)
        live.back()
        self.assertEqual(live(1), 199 % 64)
        self.unchanged(live, TooGreat, lambda: live(1), most=200)


class Presses(Test):
    def test_each_press_by_its_names(self):
        for tracks in range(1, 5):
            for press in presses_of(tracks):
                for begun in ((PLAY,) * tracks, empty_pedal(tracks)):
                    live, other = Live(tracks, pedal=begun), Live(tracks, pedal=begun)
                    told = do(live, press)
                    self.assertIs(told, not is_idle(begun, press))
                    if len(press) == 3:
                        self.assertIs(other.press(pace=press[2], track=press[1], word=press[0]), told)
                    else:
                        self.assertIs(other.press(track=press[1], word=press[0], pace=None), told)
                    self.assertTrue(live == other)
                    live(0)
                    self.assertEqual(live.row, ((press,),))

    def test_eight_presses_and_one_more(self):
        live = Live()
        for turn in range(8):
            self.assertIs(live.press("undo", 0), False)
        for turn in range(3):
            self.unchanged(live, TooGreat, lambda: live.press("tap", 0), most=8)
            self.unchanged(live, TooGreat, lambda: live.press("pace", 0, pace=2), most=8)
        live(1)
        self.assertEqual(live.row, ((("undo", 0),) * 8,))
        for turn in range(8):
            self.assertIs(live.press("tap", 0), True)
        self.unchanged(live, TooGreat, lambda: live.press("tap", 0), most=8)
        live.back()
        self.assertEqual(live.row, ())
        for turn in range(8):
            self.assertIs(live.press("tap", 0), True)
        self.unchanged(live, TooGreat, lambda: live.press("tap", 0), most=8)
        other = live.copy()
        self.unchanged(other, TooGreat, lambda: other.press("tap", 0), most=8)

    def test_what_is_no_press(self):
        full = Live(2)
        for turn in range(8):
            full.press("undo", 1)
        led = Live(2)
        lead(led, ROW, SOUND)
        led.press("mute", 0)
        done = Live(2)
        lead(done, ((),) * 200, (0,) * 200)
        for live in (full, led, done):
            for word in NO_WORDS:
                self.unchanged(live, OutOfPlace, lambda: live.press(word, 0))
            for word in ("tap", "undo", "pace"):
                for track in NO_INTEGERS + (2, 3, 4, -1, GREAT):
                    self.unchanged(live, OutOfPlace, lambda: live.press(word, track))
                    self.unchanged(live, OutOfPlace, lambda: live.press(word, track, pace=2))

    def test_the_pace_goes_with_pace_alone(self):
        live = Live(1, pedal=(PLAY,))
        for word in WORDS:
            for pace in (1, 2, 4) + NO_PACES:
                self.unchanged(live, OutOfPlace, lambda: live.press(word, 0, pace=pace))
        self.unchanged(live, OutOfPlace, lambda: live.press("pace", 0))
        self.unchanged(live, OutOfPlace, lambda: live.press("pace", 0, pace=None))
        for pace in NO_PACES:
            self.unchanged(live, OutOfPlace, lambda: live.press("pace", 0, pace=pace))
        with self.assertRaises(TypeError):
            live.press("pace", 0, 2)
        self.assertEqual(live.pedal, (PLAY,))


class Back(Test):
    def test_one_tick_by_one(self):
        live = Live()
        lead(live, ROW, SOUND)
        for many in range(4, -1, -1):
            self.assertIsNone(live.back())
            heard, behind = played(ROW[:many], SOUND[:many])
            self.assertEqual(state(live), (behind, ROW[:many], SOUND[:many], heard, many))
        self.unchanged(live, Nothing, lambda: live.back())

    def test_many_ticks(self):
        chance = random.Random(113)
        for turn in range(40):
            begun = chance_pedal(chance)
            row, sound = chance_row(chance, len(begun), 40, 6, 3), chance_sound(chance, 40)
            live = Live(len(begun), pedal=begun)
            lead(live, row, sound)
            for press in chance_row(chance, len(begun), 1, 8)[0]:
                do(live, press)
            many = chance.randint(1, 40)
            live.back(many=many)
            left = 40 - many
            heard, behind = played(row[:left], sound[:left], pedal=begun)
            self.assertEqual(state(live), (behind, row[:left], sound[:left], heard, left))
            # It goes on from there.
            self.assertEqual(lead(live, row[left:], sound[left:]), list(played(row, sound, pedal=begun)[0][left:]))
            self.assertEqual(live.row, row)

    def test_the_presses_behind_and_ahead_go_with_it(self):
        live = Live(1, pedal=(PLAY,))
        live(0)
        live.press("flip", 0)
        live(0)
        live.press("mute", 0)
        live.back()
        self.assertEqual(live.pedal, (PLAY[:3] + (2,) + PLAY[4:],))
        live(0)
        self.assertEqual((live.row, live.heard), (((), ()), (5, 7)))
        live.press("mute", 0)
        live.back(many=2)
        self.assertEqual(state(live), ((PLAY,), (), (), (), 0))

    def test_beyond_what_is_there(self):
        live = Live()
        live.press("tap", 0)
        for many in (1, 2, 200, 1001, GREAT):
            self.unchanged(live, Nothing, lambda: live.back(many=many))
        self.unchanged(live, Nothing, lambda: live.back())
        lead(live, ROW, SOUND)
        live.press("turn", 0)
        for many in (6, 7, 1000, 1001, GREAT):
            self.unchanged(live, Nothing, lambda: live.back(many=many))
        live.back(many=5)
        self.assertEqual(state(live), ((EMPTY,), (), (), (), 0))

    def test_wrong_numbers(self):
        live = Live()
        for turn in range(2):
            for many in NO_INTEGERS + (0, -1, -5, -GREAT):
                self.unchanged(live, OutOfPlace, lambda: live.back(many=many))
            lead(live, ROW, SOUND)
            live.press("turn", 0)

    def test_its_number_is_told_by_its_name_alone(self):
        live = Live()
        live(1)
        with self.assertRaises(TypeError):
            live.back(1)


class Copies(Test):
    def test_a_copy_goes_on_by_itself(self):
        chance = random.Random(114)
        for turn in range(30):
            begun = chance_pedal(chance)
            live = Live(len(begun), pedal=begun)
            row, sound = chance_row(chance, len(begun), 20), chance_sound(chance, 20)
            lead(live, row, sound)
            for press in chance_row(chance, len(begun), 1, 8)[0]:
                do(live, press)
            other = live.copy()
            self.assertIsInstance(other, Live)
            self.assertIsNot(other, live)
            self.assertEqual(state(other), state(live))
            kept = state(live)
            lead(other, ((),) + chance_row(chance, len(begun), 8), chance_sound(chance, 9))
            other.press("clear", 0)
            self.assertEqual(state(live), kept)
            kept = state(other)
            live(7)
            live.back(many=21)
            self.assertEqual(state(live), (begun, (), (), (), 0))
            self.assertEqual(state(other), kept)
            other.back(many=29)
            self.assertEqual(state(other), (begun, (), (), (), 0))

    def test_what_waits_goes_with_the_copy(self):
        live = Live()
        live.press("tap", 0)
        other = live.copy()
        live(1)
        other(2)
        self.assertEqual((live.row, live.sound), (((TAP,),), (1,)))
        self.assertEqual((other.row, other.sound), (((TAP,),), (2,)))

    def test_a_copy_of_a_copy(self):
        live = Live(3)
        lead(live, ROW, SOUND)
        other = live.copy().copy()
        self.assertTrue(live == other)
        self.assertEqual(state(live), state(other))


class Equality(Test):
    def same(self, one, other, told):
        self.assertIs(one == other, told)
        self.assertIs(other == one, told)
        self.assertIs(one != other, not told)

    def test_pedal_row_and_sound(self):
        one, other = Live(), Live()
        self.same(one, other, True)
        lead(one, ROW, SOUND)
        self.same(one, other, False)
        lead(other, ROW, SOUND)
        self.same(one, other, True)
        one.press("flip", 0)
        self.same(one, other, False)
        other.press("flip", 0)
        self.same(one, other, True)
        one.back()
        self.same(one, other, False)

    def test_each_of_them_otherwise(self):
        silent = Live()
        lead(silent, ((), ()), (1, 2))
        for row, sound in ((((), ()), (1, 3)), (((("undo", 0),), ()), (1, 2)), (((), (), ()), (1, 2, 3)), ((), ())):
            other = Live()
            lead(other, row, sound)
            self.assertEqual(other.pedal, silent.pedal)
            self.same(silent, other, False)
        self.same(Live(), Live(2), False)
        self.same(Live(pedal=(PLAY,)), Live(), False)
        # The same PEDAL, row and sound from different beginnings.
        one, other = Live(pedal=(PLAY,)), Live(pedal=(PLAY,))
        for live, word in ((one, "clear"), (other, "tap")):
            live.press(word, 0)
        self.same(one, other, False)
        one, other = Live(), Live(pedal=(PLAY,))
        for live in (one, other):
            lead(live, ((), (("clear", 0),)), (4, 4))
        self.assertEqual((one.heard, other.heard), ((0, 0), (5, 0)))
        self.same(one, other, True)

    def test_idle_presses_that_wait_do_not_matter(self):
        one, other = Live(), Live()
        one.press("undo", 0)
        self.same(one, other, True)
        one(1)
        other(1)
        self.same(one, other, False)

    def test_what_is_no_live(self):
        live = Live()
        for thing in NO_INTEGERS + NO_TUPLES + ((), ((EMPTY,), (), ()), (EMPTY,), Live):
            self.assertIs(live == thing, False)
            self.assertIs(thing == live, False)
            self.assertIs(live != thing, True)


class Then(Test):
    def test_by_hand(self):
        one, other = Live(), Live(pedal=(PLAY,))
        lead(one, ROW[:3], SOUND[:3])
        lead(other, ((("flip", 0),), ()), (9, 9))
        told = one.then(other)
        self.assertEqual(told.row, ROW[:3] + ((("flip", 0),), ()))
        self.assertEqual((told.sound, told.heard), ((5, 7, 1, 9, 9), (0, 0, 5, -7, -5)))

    def test_against_played(self):
        chance = random.Random(115)
        for turn in range(40):
            tracks = chance.randint(1, 4)
            lives = []
            for which in range(2):
                begun = chance_pedal(chance, tracks)
                live = Live(tracks, pedal=begun)
                many = chance.randint(0, 30)
                row, sound = chance_row(chance, tracks, many, 5), chance_sound(chance, many)
                lead(live, row, sound)
                for press in chance_row(chance, tracks, 1, 8)[0]:
                    do(live, press)
                lives.append((live, begun, row, sound, state(live)))
            (one, begun, row, sound, kept), (other, ahead, more, samples, left) = lives
            told = one.then(other)
            heard, behind = played(row + more, sound + samples, pedal=begun)
            self.assertEqual(state(told), (behind, row + more, sound + samples, heard, len(row + more)))
            self.assertEqual(state(one), kept)
            self.assertEqual(state(other), left)
            # The new one goes on by itself, and back to the beginning of the first one.
            told.press("clear", 0)
            told(3)
            told.back(many=len(row + more) + 1)
            self.assertEqual(told.pedal, begun)
            self.assertEqual((state(one), state(other)), (kept, left))

    def test_a_live_and_itself(self):
        live = Live()
        lead(live, ROW, SOUND)
        told = live.then(live)
        self.assertEqual((told.row, told.sound), (ROW * 2, SOUND * 2))
        self.assertEqual(len(live), 5)
        self.assertTrue(Live().then(live) == live)
        self.assertTrue(live.then(Live()) == live)

    def test_what_waits_is_left_out(self):
        one, other = Live(), Live()
        one.press("tap", 0)
        other.press("tap", 0)
        self.assertEqual(state(one.then(other)), ((EMPTY,), (), (), (), 0))
        for turn in range(7):
            one.press("undo", 0)
        told = one.then(other)
        for turn in range(8):
            told.press("undo", 0)
        self.unchanged(told, TooGreat, lambda: told.press("undo", 0), most=8)

    def test_eight_presses_a_step(self):
        live = Live()
        lead(live, ((("undo", 0),) * 8,) * 100, (1,) * 100)
        self.assertEqual(live.then(live).row, ((("undo", 0),) * 8,) * 200)

    def test_200_ticks_and_more(self):
        lives = {}
        for many in (0, 1, 100, 101, 199, 200):
            lives[many] = Live()
            lead(lives[many], ((),) * many, (1,) * many)
        for one, other in itertools.product(lives, repeat=2):
            if one + other <= 200:
                self.assertEqual(len(lives[one].then(lives[other])), one + other)
            else:
                self.unchanged(lives[one], TooGreat, lambda: lives[one].then(lives[other]), most=200)
                self.unchanged(lives[other], TooGreat, lambda: lives[one].then(lives[other]), most=200)

    def test_what_is_no_live_with_as_many_tracks(self):
        full = Live()
        lead(full, ((),) * 200, (1,) * 200)
        for live in (Live(), full):
            for thing in NO_INTEGERS + NO_TUPLES + ((EMPTY,), Live, Live(2), Live(4)):
                self.unchanged(live, OutOfPlace, lambda: live.then(thing))
        for one, other in itertools.permutations(range(1, 5), 2):
            left, right = Live(one), Live(other)
            lead(right, ((),) * 200, (1,) * 200)
            left(1)
            self.unchanged(left, OutOfPlace, lambda: left.then(right))


class Calls(Test):
    def test_all_arguments_by_their_names(self):
        live = Live(tracks=2, pedal=(PLAY, EMPTY))
        self.assertIs(live.press(word="tap", track=1), True)
        self.assertIs(live.press(pace=4, word="pace", track=0), True)
        self.assertEqual(live(sample=3), 5)
        self.assertEqual(live.row, ((("tap", 1), ("pace", 0, 4)),))
        self.assertEqual(len(live.then(other=live)), 2)
        self.assertIsNone(live.back(many=1))

    def test_kinds_of_results(self):
        live = Live(2)
        lead(live, ROW, SOUND)
        self.assertEqual([type(thing) for thing in (live.pedal, live.row, live.sound, live.heard)], [tuple] * 4)
        self.assertEqual({type(step) for step in live.row}, {tuple})
        self.assertEqual({type(press) for step in live.row for press in step}, {tuple})
        self.assertEqual({type(sample) for sample in live.sound + live.heard}, {int})
        self.assertIs(type(len(live)), int)
        self.assertIs(need_pedal(live.pedal), live.pedal)

    def test_properties_are_only_read(self):
        live = Live()
        for name in ("pedal", "row", "sound", "heard"):
            with self.assertRaises(AttributeError):
                setattr(live, name, ())

    def test_results_stay_as_they_were_told(self):
        live = Live()
        lead(live, ROW, SOUND)
        told = state(live)
        kept = copy.deepcopy(told)
        lead(live, ROW, SOUND)
        live.back(many=7)
        self.assertEqual(told, kept)

    def test_equal_calls_tell_the_same(self):
        chance = random.Random(116)
        row, sound = chance_row(chance, 2, 50), chance_sound(chance, 50)
        one, other = Live(2), Live(2)
        self.assertEqual(lead(one, row, sound), lead(other, row, sound))
        self.assertEqual(state(one), state(other))

    def test_long_lives_in_a_short_time(self):
        chance = random.Random(117)
        begun = time.process_time()
        for turn in range(5):
            pedal = chance_pedal(chance, 4)
            row = tuple(tuple(chance.choice(presses_of(4)) for press in range(8)) for step in range(200))
            live = Live(4, pedal=pedal)
            lead(live, row, (1,) * 200)
            self.assertEqual(len(live.then(Live(4))), 200)
            for tick in range(200):
                live.back()
            self.assertEqual(live.pedal, pedal)
        # Far more than it takes, so that a slow machine does not fail it.
        self.assertLess(time.process_time() - begun, 10)


if __name__ == "__main__":
    unittest.main()
