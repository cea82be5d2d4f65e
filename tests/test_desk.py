"""desk.py: a desk that is led by lines, points [9] to [12], [16] and [20] beneath it."""

import random
import re
import time
import unittest

from pedalrounds.desk import Desk
from pedalrounds.errors import OutOfPlace
from pedalrounds.live import Live
from pedalrounds.pedals import EMPTY
from pedalrounds.plays import later_at
from pedalrounds.texts import row_text
from pedalrounds.told import all_told
from models import WORDS, presses_of
from wrongs import GREAT, NO_NUMBERS_OF_TRACKS, NO_TUPLES, Refusals

NO_LINES = (
    "", " ", "  ", "tap", "tap ", " tap 0", "tap 0 ", "tap  0", "tap 0 0", "tap 0 2", "tap a", "tap -", "tap 00", "tap 01",
    "tap -0", "tap +0", "tap 0.0", "tap 0,", "tap,0", "tap\t0", "tap\n0", "tap 0\n", "Tap 0", "TAP 0", "taps 0", "0 tap",
    "0", "tap 1_0", "tap 0x0", "tap '0'", "press tap 0", "pace", "pace 0", "pace 0 ", "pace 0 2 2", "pace  0 2",
    "pace 0  2", "pace 0 02", "pace 0 +2", "pace 00 2", "pace -0 2", "pace a 2", "pace 0 a", "Pace 0 2", "undo 1 2",
    "take", "take ", "take  1", "take 1 ", "take 1  2", " take 1", "take -0", "take 01", "take -01", "take 00", "take +1",
    "take 1.0", "take 1,2", "take 1, 2", "take one", "take - 1", "take --1", "take 1-", "take -", "take 1 2 x",
    "take x 1 2", "take 1_000", "take 0x1", "take 1e3", "Take 1", "take\t1", "take 1\n", "take \n1", "take 1 -0",
    "take " + " ".join("1" * 21), "take " + " ".join("1" * 200), "back", "back ", "back 1 1", "back 01", "back +1",
    "back one", "back many=1", "Back 1", "look ", " look", "look 0", "look look", "Look", "later", "later ", "later 1 2",
    "later 01", "later +1", "later -0", "later x", "Later 1", "row ", " row", "row 0", "rows", "Row", "told", "told ",
    "told 0 0", "told 00", "told -0", "told +0", "told x", "Told 0", "hidden 0", "empty 0", "record 0", "play 0", "dub 0",
    "live", "copy", "then", "quit", "no", "done", "idle", "none", "help", "say look", "~", "tap 0;", "tap 0; look",
)
# With a Live of two TRACKs that has taken in three samples.
REFUSED_DEEDS = (
    "tap 2", "tap 3", "tap 4", "tap -1", "tap 100", "undo 2", "mute -2", "pace 2 2", "pace -1 2", "pace 0 0", "pace 0 3",
    "pace 0 8", "pace 0 -2", "pace 1 5", "back 0", "back -1", "back 4", "back 5", "back 1001", "later -1", "told 3",
    "told 4", "told -1", "told 100", "later " + str(10 ** 30 + 1), "later " + str(10 ** 999), "back " + str(GREAT),
    "told " + str(GREAT), "tap " + str(GREAT), "pace 0 " + str(GREAT), "later " + str(-GREAT), "nothing 0", "look 1",
    "row 1", "jump 0", "later -5", "play 1", "pace 4 1",
)


def state(live):
    return (live.pedal, live.row, live.sound, live.heard)


def led(tracks, *lines):
    desk = Desk(tracks)
    for line in lines:
        desk.say(line)
    return desk


class Test(Refusals):
    def refused(self, desk, line):
        """That the line is answered with "no", and that the desk goes on as if it had not been said."""
        before, other = state(desk.live), desk.live.copy()
        self.assertEqual(desk.say(line), "no", line)
        self.assertEqual(state(desk.live), before, line)
        self.assertTrue(desk.live == other)
        # What waits for a TICK, too.
        one, two = desk.live.copy(), other
        if len(one) < 200:
            one(1)
            two(1)
            self.assertEqual(state(one), state(two))

    def answers(self, desk, *pairs):
        for line, answer in pairs:
            self.assertEqual(desk.say(line), answer, line)


class Begin(Test):
    def test_so_many_empty_tracks(self):
        self.assertEqual(Desk().live.pedal, (EMPTY,))
        for tracks in range(1, 5):
            for desk in (Desk(tracks), Desk(tracks=tracks)):
                self.assertEqual(state(desk.live), ((EMPTY,) * tracks, (), (), ()))

    def test_wrong_numbers(self):
        for tracks in NO_NUMBERS_OF_TRACKS:
            self.refuse(OutOfPlace, lambda: Desk(tracks))
            self.refuse(OutOfPlace, lambda: Desk(tracks=tracks))


class Say(Test):
    def test_the_example_of_point_11(self):
        self.answers(
            Desk(), ("row", "none"), ("look", "empty 0 0 0 0 1 2 1 open"), ("tap 0", "done"), ("take 5 7", "0 0"),
            ("look", "record 1 0 0 0 1 2 1 open"), ("tap 0", "done"), ("take 1", "5"), ("tap 0", "done"),
            ("take 2", "7"), ("look", "dub 2 0 2 0 1 2 1 open"), ("take 0 0 0 0", "5 9 5 9"), ("later 0", "5"),
            ("later 1", "9"), ("row", "tap 0; -; tap 0; tap 0; -; -; -; -"), ("told 0", "told"), ("told 1", "told"),
            ("told 2", "hidden"), ("told 3", "told"), ("told 8", "no"), ("back 4", "done"),
            ("row", "tap 0; -; tap 0; tap 0"), ("back 4", "done"), ("row", "none"), ("back 1", "no"),
        )

    def test_each_press(self):
        for tracks in range(1, 5):
            for press in presses_of(4):
                for lines in ((), ("tap 0", "tap 1", "take 5 7", "tap 0", "stop 1", "take 1", "tap 0", "undo 0")):
                    desk, live = led(tracks, *lines), led(tracks, *lines).live
                    line = " ".join(map(str, press))
                    if press[1] >= tracks:
                        self.refused(desk, line)
                        continue
                    paces = {"pace": press[2]} if len(press) == 3 else {}
                    self.assertEqual(desk.say(line), "done" if live.press(*press[:2], **paces) else "idle", line)
                    self.assertTrue(desk.live == live)

    def test_take(self):
        desk = led(1, "tap 0")
        self.answers(desk, ("take 0 -1 2", "0 0 0"), ("tap 0", "done"), ("take 1 1 1 1", "0 -1 2 0"))
        desk = led(1, "tap 0", "take " + str(GREAT), "take " + str(-GREAT), "tap 0")
        self.answers(desk, ("take 1 1", f"{GREAT} {-GREAT}"), ("flip 0", "done"), ("take 9", str(-GREAT)))

    def test_take_one_to_20(self):
        for many in range(1, 21):
            desk = led(1, "tap 0")
            samples = list(range(-3, many - 3))
            self.assertEqual(desk.say("take " + " ".join(map(str, samples))), " ".join("0" * many))
            self.assertEqual(desk.live.sound, tuple(samples))
            self.assertEqual(desk.live.row, ((("tap", 0),),) + ((),) * (many - 1))
        for many in (21, 22, 100):
            self.refused(led(1, "tap 0"), "take " + " ".join("1" * many))

    def test_take_that_cannot_be_done_whole(self):
        desk = led(1, "tap 0", *["take " + " ".join("1" * 20)] * 9)
        desk.say("take " + " ".join("2" * 15))
        desk.say("flip 0")
        self.assertEqual(len(desk.live), 195)
        for many in (6, 7, 20):
            self.refused(desk, "take " + " ".join("3" * many))
        self.assertEqual(len(desk.say("take 3 3 3 3 3").split()), 5)
        self.assertEqual(len(desk.live), 200)
        self.assertEqual(desk.live.row[195], (("flip", 0),))
        for line in ("take 1", "take 1 2", "take " + " ".join("3" * 20)):
            self.refused(desk, line)
        self.answers(desk, ("back 1", "done"), ("take 4", "-1"))

    def test_back(self):
        desk = led(1, "tap 0", "take 5 7", "tap 0", "take 1 1 1", "flip 0")
        self.answers(desk, ("back 2", "done"), ("row", "tap 0; -; tap 0"), ("take 1", "7"))
        self.assertEqual(desk.live.row, ((("tap", 0),), (), (("tap", 0),), ()))
        self.refused(desk, "back 5")
        self.answers(desk, ("back 4", "done"), ("row", "none"), ("look", "empty 0 0 0 0 1 2 1 open"))

    def test_look(self):
        desk = led(4, "tap 0", "tap 1", "tap 2", "take 5 7 9")
        self.answers(desk, ("look", "; ".join(["record 1 0 0 0 1 2 1 open"] * 3 + ["empty 0 0 0 0 1 2 1 open"])))
        for line in ("tap 0", "stop 1", "tap 2", "tap 2", "turn 2", "pace 2 4", "flip 2", "mute 2"):
            self.assertEqual(desk.say(line), "done")
        self.answers(
            desk, ("look", "play 1 0 3 0 1 2 1 open; stop 1 0 3 0 1 2 1 open; dub 2 0 3 0 -1 4 -1 muted; empty 0 0 0 0 1 2 1 open"),
            ("take 1", "5"), ("undo 2", "done"), ("pace 0 1", "done"), ("take 1", "7"), ("turn 1", "done"),
            ("look", "play 1 0 3 3 1 1 1 open; stop 1 0 3 0 -1 2 1 open; play 1 1 3 4 -1 4 -1 muted; empty 0 0 0 0 1 2 1 open"),
        )

    def test_look_at_each_mode(self):
        desk = led(1, "tap 0")
        self.answers(desk, ("look", "record 1 0 0 0 1 2 1 open"))
        for tick in range(63):
            desk.say("take 1")
            self.answers(desk, ("look", "record 1 0 0 0 1 2 1 open"))
        desk.say("take 1")
        self.answers(desk, ("look", "play 1 0 64 0 1 2 1 open"))
        for layers in range(2, 5):
            self.answers(desk, ("tap 0", "done"), ("look", f"dub {layers} 0 64 0 1 2 1 open"), ("tap 0", "done"))
        desk.say("take 0")
        for undone in range(1, 4):
            self.answers(desk, ("undo 0", "done"), ("look", f"play {4 - undone} {undone} 64 2 1 2 1 open"))
        self.answers(desk, ("stop 0", "done"), ("look", "stop 1 3 64 0 1 2 1 open"), ("clear 0", "done"))
        self.answers(desk, ("look", "empty 0 0 0 0 1 2 1 open"))

    def test_later(self):
        desk = led(2, "tap 0", "take 5 7", "tap 0", "pace 0 1", "tap 1", "take 3")
        pedal = desk.live.pedal
        for tick in (0, 1, 5, 62, 63, 64, 65, 10 ** 30):
            self.answers(desk, (f"later {tick}", str(later_at(pedal, tick))))
        self.answers(Desk(3), ("later 0", "0"), ("later " + str(10 ** 30), "0"))
        desk.say("flip 0")
        self.answers(desk, ("later 0", "-5"))
        self.assertEqual(len(desk.live), 3)

    def test_row(self):
        desk = led(4, "tap 0", "pace 1 4", "undo 3", "take 1 2", "join 2")
        self.answers(desk, ("row", "tap 0, pace 1 4, undo 3; -"), ("take 1", "0"), ("row", "tap 0, pace 1 4, undo 3; -; join 2"))
        self.assertEqual(desk.say("row"), row_text(desk.live.row).replace("\n", "; "))
        self.answers(led(1, "take 1"), ("row", "-"))
        self.answers(led(1, "tap 0"), ("row", "none"))

    def test_told(self):
        desk = led(1, "tap 0", "take 1", "tap 0", "take 1")
        self.answers(desk, ("told 0", "told"), ("told 1", "hidden"), ("told 2", "no"), ("told -1", "no"))
        self.answers(Desk(), ("told 0", "no"))
        self.answers(led(1, "take 5"), ("told 0", "hidden"))
        chance = random.Random(121)
        for turn in range(20):
            tracks = chance.randint(1, 3)
            desk = Desk(tracks)
            for line in range(30):
                desk.say(" ".join(map(str, chance.choice(presses_of(tracks) + [("tap", 0), ("tap", tracks - 1)] * 6))))
                if chance.random() < 0.5:
                    desk.say("take " + str(chance.randint(-9, 9)))
            row = desk.live.row
            told = all_told(tracks, row)
            for index in range(len(row)):
                self.answers(desk, (f"told {index}", "told" if index in told else "hidden"))
            self.assertEqual(desk.live.row, row)
            self.refused(desk, f"told {len(row)}")

    def test_told_of_30_steps_and_31(self):
        desk = led(2, "tap 0", "take " + " ".join("1" * 20), "take " + " ".join("1" * 10))
        self.answers(desk, ("told 0", "told"), ("told 29", "told"), ("told 30", "no"))
        desk.say("take 1")
        for index in (0, 29, 30, 31):
            self.refused(desk, f"told {index}")
        self.answers(desk, ("back 1", "done"), ("told 0", "told"))

    def test_lines_that_are_none(self):
        for lines in ((), ("tap 0", "take 5 7", "tap 1", "tap 0", "take 3", "flip 0")):
            desk = led(2, *lines)
            for line in NO_LINES:
                self.refused(desk, line)

    def test_deeds_that_are_refused(self):
        desk = led(2, "tap 0", "take 5 7", "tap 0", "take 3", "flip 0")
        for line in REFUSED_DEEDS:
            self.refused(desk, line)
        self.answers(desk, ("take 1", "-7"))

    def test_nine_presses(self):
        desk = Desk(2)
        for turn in range(8):
            self.assertEqual(desk.say("undo 1"), "idle")
        for line in ("undo 1", "tap 0", "pace 0 2", "tap 7"):
            self.refused(desk, line)
        self.answers(desk, ("take 1", "0"), ("tap 0", "done"), ("row", ", ".join(["undo 1"] * 8)))

    def test_one_sign_otherwise_at_every_place(self):
        signs = [chr(code) for code in range(32, 127) if chr(code) != "%"] + ["\n", "\t"]
        words = {word + " 0" for word in WORDS} | {word + " 1" for word in WORDS}
        for line in ("tap 0", "pace 1 4", "look", "row", "back 1", "later 5", "told 0", "turn 1"):
            for at in range(len(line) + 1):
                for sign in signs:
                    for other in (line[:at] + sign + line[at:], line[:at] + sign + line[at + 1:]):
                        lawful = other in words or other in ("look", "row") or other.split(" ")[0] in (
                            "pace", "back", "later", "told", "take"
                        )
                        if not lawful:
                            self.assertEqual(led(2, "tap 0", "take 5").say(other), "no", other)

    def test_numbers_as_they_are_written(self):
        chance = random.Random(122)
        for turn in range(1500):
            text = "".join(chance.choice("0012-+ _.x") for sign in range(chance.randint(1, 3)))
            desk = Desk()
            parts = text.split(" ")
            if all(re.fullmatch("0|-?[1-9][0-9]*", part) for part in parts):
                self.assertEqual(desk.say("take " + text), " ".join("0" for part in parts))
                self.assertEqual(desk.live.sound, tuple(map(int, parts)))
            else:
                self.refused(desk, "take " + text)

    def test_what_is_no_string(self):
        desk = led(1, "tap 0", "take 5")
        for line in (b"look", b"", None, True, 0, 1, (), ("look",), ["look"], [], {}, 1.5, object(), str):
            before = state(desk.live)
            self.refuse(OutOfPlace, lambda: desk.say(line))
            self.assertEqual(state(desk.live), before)
        for line in NO_TUPLES:
            if not isinstance(line, str):
                self.refuse(OutOfPlace, lambda: desk.say(line=line))

    def test_against_a_live(self):
        chance = random.Random(123)
        for turn in range(30):
            tracks = chance.randint(1, 4)
            desk, live = Desk(tracks), Live(tracks)
            for line in range(60):
                if chance.random() < 0.6:
                    press = chance.choice(presses_of(tracks) + [("tap", 0), ("tap", tracks - 1)] * 4)
                    if len(press) == 3:
                        told = live.press("pace", press[1], pace=press[2])
                    else:
                        told = live.press(*press)
                    self.assertEqual(desk.say(" ".join(map(str, press))), "done" if told else "idle")
                    if chance.random() < 0.5:
                        continue
                samples = [chance.randint(-99, 99) for sample in range(chance.randint(1, 3))]
                heard = [live(sample) for sample in samples]
                self.assertEqual(desk.say("take " + " ".join(map(str, samples))), " ".join(map(str, heard)))
                if chance.random() < 0.2:
                    live.back(many=2 if len(live) > 1 else 1)
                    self.assertEqual(desk.say("back 2" if len(desk.live) > 1 else "back 1"), "done")
                self.assertTrue(desk.live == live)
                self.assertEqual(state(desk.live), state(live))


class TheLive(Test):
    def test_it_is_the_very_live(self):
        desk = led(2, "tap 0", "take 5")
        self.assertIs(desk.live, desk.live)
        self.assertIsInstance(desk.live, Live)
        live = desk.live
        for line in ("take 7", "back 1", "tap 0", "look", "nothing", "take 1 1"):
            desk.say(line)
            self.assertIs(desk.live, live)

    def test_what_is_done_at_it_is_seen_by_the_desk(self):
        desk = Desk(2)
        live = desk.live
        live.press("tap", 1)
        live(5)
        self.answers(desk, ("row", "tap 1"), ("look", "empty 0 0 0 0 1 2 1 open; record 1 0 0 0 1 2 1 open"))
        self.assertIs(live.press("tap", 1), True)
        self.answers(desk, ("take 1 2", "5 5"), ("told 0", "told"), ("later 3", "5"))
        live.back(many=2)
        self.answers(desk, ("row", "tap 1"), ("back 1", "done"), ("row", "none"))
        self.assertEqual(len(live), 0)
        for turn in range(8):
            live.press("undo", 0)
        self.refused(desk, "undo 0")

    def test_what_is_done_at_a_copy_is_not(self):
        desk = led(1, "tap 0", "take 5")
        other = desk.live.copy()
        other(7)
        self.answers(desk, ("row", "tap 0"))

    def test_it_is_only_read(self):
        with self.assertRaises(AttributeError):
            Desk().live = Live()

    def test_desks_go_on_by_themselves(self):
        one, other = Desk(), Desk()
        one.say("tap 0")
        one.say("take 1")
        self.assertEqual(other.say("row"), "none")


class Calls(Test):
    def test_by_name(self):
        desk = Desk(tracks=2)
        self.assertEqual(desk.say(line="tap 1"), "done")

    def test_answers_are_strings(self):
        desk = Desk()
        for line in ("tap 0", "take 1 2", "back 1", "look", "later 7", "row", "told 0", "wrong", ""):
            self.assertIs(type(desk.say(line)), str)

    def test_equal_calls_tell_the_same(self):
        lines = ("tap 0", "take 5 7", "tap 0", "take 1", "flip 0", "take 2 3", "look", "row", "later 99", "told 1", "back 2")
        one, other = Desk(3), Desk(3)
        self.assertEqual([one.say(line) for line in lines], [other.say(line) for line in lines])

    def test_long_lines_in_a_short_time(self):
        desk = led(4, "tap 0", "take 5")
        begun = time.process_time()
        for line in (
            "take " + "1 " * 9999, "take" + " " * 19996, "a" * 20000, "look " * 4000, "tap " + "9" * 1000,
            "take " + " ".join(["1" * 999] * 21), "back " + "0" * 1000,
        ):
            self.refused(desk, line)
        # Far more than it takes, so that a slow machine does not fail it.
        self.assertLess(time.process_time() - begun, 5)


if __name__ == "__main__":
    unittest.main()
