"""texts.py: point [20], and point [1] as far as texts.py keeps it."""

import copy
import random
import re
import time
import unittest

from pedalrounds.errors import BadRow, BadText, OutOfPlace
from pedalrounds.plays import need_row
from pedalrounds.texts import read_row, row_text
from models import WORDS, chance_row, presses_of
from wrongs import NO_PRESSES, NO_ROWS, NO_TUPLES, TAP, Refusals

ROW = ((TAP, ("pace", 3, 4), ("undo", 2)), (), (("mute", 1),), (("clear", 0), ("join", 3)))
TEXT = "tap 0, pace 3 4, undo 2\n-\nmute 1\nclear 0, join 3"
EIGHT = ("tap 0", "stop 1", "clear 2", "undo 3", "redo 0", "join 1", "turn 2", "pace 3 1")
PART = re.compile(r"(tap|stop|clear|undo|redo|join|turn|flip|mute) ([0-3])|pace ([0-3]) ([124])")
WRONG_PARTS = (
    "", "-", " ", "tap", "tap ", "tap 4", "tap 9", "tap -1", "tap 00", "tap 01", "tap +1", "tap 0 ", " tap 0", "tap  0",
    "tap 0 0", "tap 0 2", "Tap 0", "TAP 0", "tap0", "0", "0 tap", "tap a", "tap 1.0", "tap 10", "taps 0", "ta 0", "play 0",
    "record 0", "take 0", "pace", "pace 0", "pace 0 ", "pace 0 0", "pace 0 3", "pace 0 5", "pace 0 8", "pace 0 -1",
    "pace 0 01", "pace 00 1", "pace 0 1 1", "pace 4 1", "pace 0  1", "pace 1 +1", "pace  0 1", "pace -0 1", "Pace 0 1",
    "tap 0,", ",", "tap 0;", "tap 0.", "tap,0", "tap 0,tap 0", "tap\t0", "(tap 0)", "'tap 0'", "tap_0", "tap 1_0", "none",
    "~", "pace 0 12", "pace 0 14", "tap 0x0",
)


def refusal_of(text):
    """The line and the word that the reading of a text refuses, or None, read off the document once more."""
    if text == "":
        return None
    for number, line in enumerate(text.split("\n"), 1):
        if number == 201:
            return (201, 0)
        parts = line.split(", ")
        wrong = [at for at, part in enumerate(parts, 1) if not PART.fullmatch(part)]
        if line == "-":
            continue
        if wrong and wrong[0] <= 8:
            return (number, wrong[0])
        if len(parts) > 8:
            return (number, 9)
    return None


class Test(Refusals):
    def bad(self, text, line, word):
        self.refuse(BadText, lambda: read_row(text), line=line, word=word)

    def check(self, text):
        """That the text is read, or refused, as the document says."""
        told = refusal_of(text)
        if told is None:
            row = read_row(text)
            self.assertIs(need_row(4, row), row)
            self.assertEqual(row_text(row), text)
        else:
            self.bad(text, *told)
        return told is None


class RowText(Test):
    def test_by_hand(self):
        self.assertEqual(row_text(ROW), TEXT)
        self.assertEqual(row_text(()), "")
        self.assertEqual(row_text(((),)), "-")
        self.assertEqual(row_text(((), ())), "-\n-")
        self.assertEqual(row_text(((TAP,),)), "tap 0")
        self.assertEqual(row_text(((TAP, TAP), ())), "tap 0, tap 0\n-")

    def test_each_press(self):
        for word in WORDS:
            for number in range(4):
                self.assertEqual(row_text((((word, number),),)), word + " " + str(number))
        for number in range(4):
            for pace in (1, 2, 4):
                self.assertEqual(row_text(((("pace", number, pace),),)), f"pace {number} {pace}")

    def test_rows_of_any_size(self):
        self.assertEqual(row_text(((),) * 200), "\n".join("-" * 200))
        eight = tuple(tuple(part if not part.isdigit() else int(part) for part in press.split()) for press in EIGHT)
        self.assertEqual(row_text((eight,) * 200), "\n".join([", ".join(EIGHT)] * 200))

    def test_no_rows_by_4_tracks(self):
        for thing, place in NO_ROWS:
            if place == () or len(place) == 1:
                self.refuse(BadRow, lambda: row_text(thing), place=place)
        for press in NO_PRESSES:
            self.refuse(BadRow, lambda: row_text(((), (TAP, press))), place=(1, 1))
        self.assertEqual(row_text(((("tap", 3),),)), "tap 3")
        self.refuse(BadRow, lambda: row_text(((("tap", 4),),)), place=(0, 0))


class ReadRow(Test):
    def test_by_hand(self):
        self.assertEqual(read_row(TEXT), ROW)
        self.assertEqual(read_row(""), ())
        self.assertEqual(read_row("-"), ((),))
        self.assertEqual(read_row("-\n-"), ((), ()))
        self.assertEqual(read_row("tap 0, tap 0\n-"), ((TAP, TAP), ()))

    def test_each_press(self):
        for press in presses_of(4):
            self.assertEqual(read_row(" ".join(map(str, press))), ((press,),))
            self.assertEqual(repr(read_row(" ".join(map(str, press)))), repr(((press,),)))

    def test_there_and_back(self):
        chance = random.Random(101)
        for turn in range(60):
            row = chance_row(chance, 4, chance.randint(0, 40), 8, 0)
            self.assertEqual(read_row(row_text(row)), row)

    def test_eight_presses_and_nine(self):
        self.assertEqual(len(read_row(", ".join(EIGHT))[0]), 8)
        self.bad(", ".join(EIGHT + ("tap 0",)), 1, 9)
        self.bad("-\n" + ", ".join(EIGHT * 3), 2, 9)
        self.bad(", ".join(EIGHT) + ", ", 1, 9)
        self.bad(", ".join(EIGHT) + ", tap", 1, 9)
        self.bad(", ".join(EIGHT) + ",", 1, 8)
        for at in range(8):
            for wrong in ("", "tap", "-", "tap 4"):
                parts = EIGHT[:at] + (wrong,) + EIGHT[at + 1:]
                self.bad(", ".join(parts), 1, at + 1)
                self.bad("tap 0\n" + ", ".join(parts + ("tap 0",)), 2, at + 1)
                self.bad("tap 0\n" + ", ".join(parts + ("tap",)), 2, at + 1)

    def test_wrong_parts(self):
        for part in WRONG_PARTS:
            if part not in ("", "-"):
                self.bad(part, 1, 1)
            self.bad("tap 0\n" + part + "\ntap", 2, 1) if part != "-" else None
            self.bad("-\ntap 0, " + part, 2, 2)
            self.bad("-\n-\ntap 0, " + part + ", tap 0, tap", 3, 2)
            self.bad(part + ", tap 0", 1, 1)

    def test_empty_lines(self):
        self.bad("\n", 1, 1)
        self.bad("-\n", 2, 1)
        self.bad("\n-", 1, 1)
        self.bad("tap 0\n\ntap 0", 2, 1)
        self.bad("\n" * 20000, 1, 1)
        self.bad("-\n\n\n", 2, 1)

    def test_the_step_without_presses(self):
        for line in ("- ", " -", "--", "-, -", "-,", "-, tap 0", ", -", "_", "tap 0, -"):
            told = refusal_of(line)
            self.bad(line, *told)
            self.bad("-\n" + line, told[0] + 1, told[1])

    def test_commas_and_blanks(self):
        for line, word in (
            ("tap 0,tap 0", 1), ("tap 0,  tap 0", 2), ("tap 0 , tap 0", 1), ("tap 0, tap 0, ", 3), (", tap 0", 1),
            ("tap 0,, tap 0", 1), ("tap 0, , tap 0", 2), ("tap 0, tap 0,", 2), (" tap 0", 1), ("tap 0 ", 1),
            (", ", 1), (", , ", 1), (",", 1), (" ", 1), ("tap 0; tap 0", 1), ("tap 0, tap 0,tap 0", 2),
        ):
            self.bad(line, 1, word)
            self.bad(line + "\n-", 1, word)

    def test_one_sign_otherwise_at_every_place(self):
        signs = [chr(code) for code in range(32, 127) if chr(code) != "%"] + ["\n"]
        read = refused = 0
        for at in range(len(TEXT) + 1):
            texts = [TEXT[:at] + sign + TEXT[at:] for sign in signs] + [TEXT[:at] + TEXT[at + 1:]]
            texts += [TEXT[:at] + sign + TEXT[at + 1:] for sign in signs] + [TEXT[:at], TEXT[at:]]
            for text in texts:
                told = self.check(text)
                read += told
                refused += not told
        self.assertGreater(read, 50)
        self.assertGreater(refused, 5000)

    def test_texts_of_pieces(self):
        chance = random.Random(103)
        pieces = ("tap", "pace", "turn", " ", " ", " ", ", ", ", ", "\n", "-", "0", "1", "2", "3", "4", ",", "tap 0", "tap 0, ")
        for turn in range(4000):
            self.check("".join(chance.choice(pieces) for piece in range(chance.randint(0, 14))))

    def test_lines_with_one_part_otherwise(self):
        chance = random.Random(104)
        for turn in range(1500):
            lines = row_text(chance_row(chance, 4, chance.randint(1, 6), 8, 0)).split("\n")
            at = chance.randrange(len(lines))
            parts = lines[at].split(", ")
            parts[chance.randrange(len(parts))] = chance.choice(WRONG_PARTS)
            parts += chance.choice(([], [], ["tap 0"] * 3, ["tap 0"] * 8, ["wrong"]))
            self.check("\n".join(lines[:at] + [", ".join(parts)] + lines[at + 1:]))

    def test_200_lines_and_more(self):
        line = ", ".join(EIGHT)
        self.assertEqual(len(read_row("\n".join([line] * 200))), 200)
        self.assertEqual(read_row("\n".join("-" * 200)), ((),) * 200)
        for more in ("-", "tap 0", "", "wrong", ", ".join(EIGHT * 2), "wrong\n-\n-", "-\n" * 9000):
            self.bad("\n".join("-" * 200) + "\n" + more, 201, 0)
        for at in (0, 1, 100, 199):
            lines = ["-"] * 200
            lines[at] = "tap 0, tap 9"
            for more in ("-", "wrong", "", "-\n" * 5000):
                self.bad("\n".join(lines) + "\n" + more, at + 1, 2)
        self.bad("\n".join("-" * 199) + "\nwrong", 200, 1)
        self.bad("\n".join("-" * 199) + "\n", 200, 1)

    def test_20000_signs_in_a_short_time(self):
        begun = time.process_time()
        self.bad("tap 0, " * 2857, 1, 9)
        self.bad(", " * 10000, 1, 1)
        self.bad("a" * 20000, 1, 1)
        self.bad("tap " + "0" * 19996, 1, 1)
        self.bad(" " * 20000, 1, 1)
        self.bad("-\n" * 10000, 201, 0)
        self.bad("tap 0\n" * 3333, 201, 0)
        self.bad("\n".join([", ".join(["pace 0 1"] * 8)] * 199 + ["tap 0, " * 700]), 200, 9)
        for turn in range(100):
            self.assertEqual(len(read_row("\n".join([", ".join(EIGHT)] * 200))), 200)
        # Far more than it takes, so that a slow machine does not fail it.
        self.assertLess(time.process_time() - begun, 10)

    def test_what_is_no_string(self):
        for thing in (b"tap 0", b"", 0, 1, True, None, (), [], ["tap 0"], ("tap 0",), {}, 1.5, object(), str):
            self.bad(thing, 0, 0)
        for thing in NO_TUPLES:
            if not isinstance(thing, str):
                self.bad(thing, 0, 0)

    def test_the_fields_are_integers(self):
        for text in ("tap", "\n".join("-" * 201), None):
            with self.assertRaises(BadText) as caught:
                read_row(text)
            self.assertEqual([type(caught.exception.line), type(caught.exception.word)], [int, int])


class Calls(Test):
    def test_by_name(self):
        self.assertEqual(row_text(row=ROW), TEXT)
        self.assertEqual(read_row(text=TEXT), ROW)

    def test_kinds_of_results(self):
        row = read_row(TEXT)
        self.assertIs(type(row), tuple)
        self.assertEqual({type(step) for step in row}, {tuple})
        self.assertEqual({type(press) for step in row for press in step}, {tuple})
        self.assertIs(type(row_text(ROW)), str)

    def test_equal_calls_tell_the_same_and_change_nothing(self):
        kept = copy.deepcopy(ROW)
        self.assertEqual(row_text(ROW), row_text(copy.deepcopy(ROW)))
        self.assertEqual(read_row(TEXT), read_row(TEXT))
        self.assertEqual(ROW, kept)
        row = [[TAP]]
        self.refuse(BadRow, lambda: row_text(row), place=())
        self.assertEqual(row, [[TAP]])

    def test_it_is_no_other_error(self):
        self.assertFalse(issubclass(BadText, (BadRow, OutOfPlace)))


if __name__ == "__main__":
    unittest.main()
