"""The interface: each name stands in its own module, with the arguments that are told."""

import importlib
import inspect
import unittest

ERRORS = {
    "BadLoops": ("place",), "BadLengths": ("place",), "BadPedal": ("place",), "BadRow": ("place",),
    "BadPaper": ("part",), "BadText": ("line", "word"), "OutOfPlace": ("text",),
    "TooGreat": ("most",), "Nothing": ("text",),
}
LOOPS = {
    "need_loops": ("thing",), "lengths_of": ("loops",), "heard": ("loops", "tick"),
    "heard_row": ("loops", "tick", "many"), "later": ("loops", "ticks"),
}
SPANS = {
    "need_lengths": ("thing",), "span": ("lengths",), "weights": ("lengths",),
    "carried": ("lengths", "row", "many"),
}
FITS = {"fit": ("lengths", "row"), "check_fit": ("lengths", "row", "paper"), "deceiver": ("lengths",)}
ALIKE = {"first_apart": ("one", "other"), "period": ("loops",), "silent": ("loops",)}
MEETINGS = {"meeting": ("lengths", "places"), "check_meeting": ("lengths", "places", "paper")}
PEDALS = {
    "need_pedal": ("thing",), "empty_pedal": ("tracks",), "pressed": ("pedal", "press"),
    "is_idle": ("pedal", "press"), "ticked": ("pedal", "sample"),
}
PLAYS = {
    "need_row": ("tracks", "thing"), "played": ("row", "sound"), "later_at": ("pedal", "tick"), "rounds": ("pedal",),
    "first_parting": ("one", "other"),
}
SHARES = {"shares": ("tracks", "row", "tick"), "parting": ("tracks", "one", "other")}
TOLD = {
    "told_back": ("tracks", "row", "index"), "check_told": ("tracks", "row", "index", "paper"),
    "all_told": ("tracks", "row"),
}
TWINS = {"plain": ("pedal",), "are_twins": ("one", "other")}
WAYS = {"hushed": ("tracks", "row"), "way_to": ("track", "goal")}
TEXTS = {"row_text": ("row",), "read_row": ("text",)}
LIVE = {"Live": ("tracks",)}
DESK = {"Desk": ("tracks",)}
MODULES = {
    "pedalrounds.errors": ERRORS, "pedalrounds.loops": LOOPS, "pedalrounds.spans": SPANS, "pedalrounds.fits": FITS,
    "pedalrounds.alike": ALIKE, "pedalrounds.meetings": MEETINGS, "pedalrounds.pedals": PEDALS,
    "pedalrounds.plays": PLAYS, "pedalrounds.shares": SHARES, "pedalrounds.told": TOLD, "pedalrounds.twins": TWINS,
    "pedalrounds.ways": WAYS, "pedalrounds.texts": TEXTS, "pedalrounds.live": LIVE, "pedalrounds.desk": DESK,
}
EMPTY = ("empty", (), (), 0, 1, 2, 1, False)
# The arguments behind a star, with what stands for those that are not passed.
BEHIND_A_STAR = {"played": {"pedal": (EMPTY,)}, "Live": {"pedal": None}, "press": {"pace": None}, "back": {"many": 1}}
# What need not be passed otherwise, and what then stands for it.
NEED_NOT = {"Live": {"tracks": 1}, "Desk": {"tracks": 1}}
METHODS = {
    "Live": {
        "__call__": ("sample",), "press": ("word", "track"), "back": (), "__len__": (), "copy": (),
        "__eq__": ("other",), "then": ("other",),
    },
    "Desk": {"say": ("line",)},
}
PROPERTIES = {"Live": ("pedal", "row", "sound", "heard"), "Desk": ("live",)}


class Interface(unittest.TestCase):
    def check_arguments(self, name, called, arguments):
        told = inspect.signature(called).parameters.values()
        first = [one for one in told if one.kind == inspect.Parameter.POSITIONAL_OR_KEYWORD]
        self.assertEqual(tuple(one.name for one in first), arguments, name)
        need_not = {one.name: one.default for one in first if one.default is not inspect.Parameter.empty}
        self.assertEqual(need_not, NEED_NOT.get(name, {}), name)
        behind = [one for one in told if one.kind == inspect.Parameter.KEYWORD_ONLY]
        self.assertEqual({one.name: one.default for one in behind}, BEHIND_A_STAR.get(name, {}), name)
        self.assertEqual(len(told), len(first) + len(behind), name)

    def test_each_name_is_defined_in_its_module(self):
        for path, names in MODULES.items():
            module = importlib.import_module(path)
            for name in names:
                self.assertEqual(getattr(module, name).__module__, path, name)
                self.assertEqual(getattr(module, name).__name__, name)

    def test_the_arguments_and_their_names(self):
        for path, names in MODULES.items():
            module = importlib.import_module(path)
            for name, arguments in names.items():
                self.check_arguments(name, getattr(module, name), arguments)

    def test_the_methods_are_defined_in_the_classes_themselves(self):
        for path, names in MODULES.items():
            for name in names:
                if name in METHODS:
                    own = vars(getattr(importlib.import_module(path), name))
                    for method, arguments in METHODS[name].items():
                        self.check_arguments(method, own[method], ("self",) + arguments)
                    for one in PROPERTIES[name]:
                        self.assertIsInstance(own[one], property)

    def test_empty(self):
        self.assertEqual(importlib.import_module("pedalrounds.pedals").EMPTY, EMPTY)


if __name__ == "__main__":
    unittest.main()
