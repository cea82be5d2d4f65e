"""Texts of ROWs."""

from pedalrounds.errors import BadText
from pedalrounds.pedals import MOST_TRACKS, every_press
from pedalrounds.plays import MOST_PRESSES, MOST_STEPS, need_row

NO_PRESS = "-"
BETWEEN = ", "


def row_text(row):
    """The text of the ROW."""
    return "\n".join([step_text(step) for step in need_row(MOST_TRACKS, row)])


def read_row(text):
    """The ROW that the text tells."""
    if not isinstance(text, str):
        raise BadText(0, 0)
    if text == "":
        return ()
    presses = {press_text(press): press for press in every_press(MOST_TRACKS)}
    steps = []
    for at, line in enumerate(text.split("\n")):
        if at == MOST_STEPS:
            raise BadText(at + 1, 0)
        steps.append(read_step(at + 1, line, presses))
    return tuple(steps)


def step_text(step):
    """The line of a STEP."""
    if step == ():
        return NO_PRESS
    return BETWEEN.join([press_text(press) for press in step])


def press_text(press):
    """A PRESS as it is written."""
    return " ".join([str(part) for part in press])


def read_step(number, line, presses):
    """The STEP that the line of this number tells; presses are all of them, by their texts."""
    if line == NO_PRESS:
        return ()
    parts = line.split(BETWEEN)
    for at, part in enumerate(parts):
        if at == MOST_PRESSES or part not in presses:
            raise BadText(number, at + 1)
    return tuple([presses[part] for part in parts])
