"""The interface: each name stands in its own module, with the arguments that are told."""

import importlib
import inspect
import unittest

ERRORS = {
    "BadLoops": ("place",), "BadLengths": ("place",), "BadPedal": ("place",), "BadRow": ("place",),
    "BadPaper": ("part",), "BadText": ("line", "word"), "OutOfPlace": ("text",),
    "TooGreat": ("most",), "Nothing": ("text",),
}
LOOPS = {
    "need_loops": ("thing",), "lengths_of": ("loops",), "heard": ("loops", "tick"),
    "heard_row": ("loops", "tick", "many"), "later": ("loops", "ticks"),
}
SPANS = {
    "need_lengths": ("thing",), "span": ("lengths",), "weights": ("lengths",),
    "carried": ("lengths", "row", "many"),
}
FITS = {"fit": ("lengths", "row"), "check_fit": ("lengths", "row", "paper"), "deceiver": ("lengths",)}
ALIKE = {"first_apart": ("one", "other"), "period": ("loops",), "silent": ("loops",)}
MEETINGS = {"meeting": ("lengths", "places"), "check_meeting": ("lengths", "places", "paper")}
PEDALS = {
    "need_pedal": ("thing",), "empty_pedal": ("tracks",), "pressed": ("pedal", "press"),
    "is_idle": ("pedal", "press"), "ticked": ("pedal", "sample"),
}
MODULES = {
    "pedalrounds.errors": ERRORS, "pedalrounds.loops": LOOPS, "pedalrounds.spans": SPANS, "pedalrounds.fits": FITS,
    "pedalrounds.alike": ALIKE, "pedalrounds.meetings": MEETINGS, "pedalrounds.pedals": PEDALS,
}


class Interface(unittest.TestCase):
    def test_each_name_is_defined_in_its_module(self):
        for path, names in MODULES.items():
            module = importlib.import_module(path)
            for name in names:
                self.assertEqual(getattr(module, name).__module__, path, name)
                self.assertEqual(getattr(module, name).__name__, name)

    def test_the_arguments_and_their_names(self):
        for path, names in MODULES.items():
            module = importlib.import_module(path)
            for name, arguments in names.items():
                told = inspect.signature(getattr(module, name)).parameters.values()
                self.assertEqual(tuple(one.name for one in told), arguments, name)
                for one in told:
                    self.assertEqual(one.kind, inspect.Parameter.POSITIONAL_OR_KEYWORD, name)
                    self.assertIs(one.default, inspect.Parameter.empty, name)


if __name__ == "__main__":
    unittest.main()
