"""A desk that is led by lines."""

from pedalrounds.errors import Nothing, OutOfPlace, TooGreat
from pedalrounds.live import Live
from pedalrounds.pedals import HOLDING
from pedalrounds.plays import MOST_STEPS, later_at
from pedalrounds.texts import row_text
from pedalrounds.told import told_back

MOST_SAMPLES = 20
REFUSAL = "no"


class Desk:
    """A desk with a Live, which it leads as it is told."""

    def __init__(self, tracks=1):
        self.held = Live(tracks)

    def say(self, line):
        """Do what the line asks for, and answer it."""
        if not isinstance(line, str):
            raise OutOfPlace("a line is a string")
        word, *texts = line.split(" ")
        numbers = [whole_of(text) for text in texts]
        if None in numbers:
            return REFUSAL
        try:
            return answer(self.held, word, numbers)
        except (OutOfPlace, TooGreat, Nothing):
            return REFUSAL

    @property
    def live(self):
        """The Live of the desk."""
        return self.held


def whole_of(text):
    """The integer that the text is just as it is written, or None."""
    try:
        number = int(text)
    except ValueError:
        return None
    if str(number) != text:
        return None
    return number


def answer(live, word, numbers):
    """The answer to a line of a word and numbers, behind its deed."""
    many = len(numbers)
    if word == "take" and 1 <= many <= MOST_SAMPLES:
        return taken(live, numbers)
    if word == "look" and many == 0:
        return "; ".join([track_text(track) for track in live.pedal])
    if word == "row" and many == 0:
        return row_text(live.row).replace("\n", "; ") or "none"
    if word == "back" and many == 1:
        live.back(many=numbers[0])
        return "done"
    if word == "later" and many == 1:
        return str(later_at(live.pedal, numbers[0]))
    if word == "told" and many == 1:
        return told_back(len(live.pedal), live.row, numbers[0])[0]
    if word == "pace" and many == 2:
        return press_answer(live.press(word, numbers[0], pace=numbers[1]))
    if many == 1:
        return press_answer(live.press(word, numbers[0]))
    return REFUSAL


def press_answer(changed):
    """The answer to a PRESS."""
    return "done" if changed else "idle"


def taken(live, samples):
    """What is heard in a TICK for each of the samples, if all of them can be taken in."""
    # Ahead of the first one: a line that cannot be done whole changes nothing.
    if len(live) + len(samples) > MOST_STEPS:
        return REFUSAL
    return " ".join([str(live(sample)) for sample in samples])


def track_text(track):
    """What is told of a TRACK."""
    mode, layers, undone, point, way, pace, sign, muted = track
    length = len(layers[0]) if mode in HOLDING else 0
    numbers = [str(number) for number in (len(layers), len(undone), length, point, way, pace, sign)]
    return " ".join([mode] + numbers + ["muted" if muted else "open"])
