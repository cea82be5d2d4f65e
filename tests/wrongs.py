"""Things for the tests to pass in the places of others, and how these are refused."""

import unittest
import unittest.mock

NO_INTEGERS = (True, False, None, 1.0, "1", b"1", (1,), [1], {1: 1}, {1}, object(), int)
NO_TUPLES = (True, 0, 7, None, 1.5, "", "ab", b"", [], [(1,)], {}, {(1,): 1}, set(), range(2), object(), tuple)
BEYOND_TICKS = (-1, -10 ** 30, 10 ** 30 + 1, 10 ** 999)
BEYOND_MANY = (-1, 1001, -1000, 10 ** 30)
GREAT = 10 ** 999 + 7
NO_NUMBERS_OF_TRACKS = NO_INTEGERS + (0, 5, -1, GREAT, -GREAT)

TAP = ("tap", 0)
# What is no PRESS, however many TRACKs there are.
NO_PRESSES = NO_TUPLES + (
    (), ("tap",), ("tap", 0, 0), ("pace", 0), ("pace", 0, 2, 2), (0, "tap"), ("tap", "0"), ("", 0), ("Tap", 0),
    ("tap ", 0), (" tap", 0), ("play", 0), ("record", 0), ("take", 0), ("back", 0), (b"tap", 0), (("tap",), 0),
    (None, 0), (unittest.mock.ANY, 0), (unittest.mock.ANY, 0, 2), ("pace", 0, 0), ("pace", 0, 3), ("pace", 0, 8),
    ("pace", 0, -1), ("pace", 0, GREAT), ("tap", 0, 2), ("turn", 0, 1), (["tap"], 0), ["tap", 0], ["pace", 0, 2],
    (TAP,), ("tap", 4), ("undo", -1), ("pace", 4, 2), ("mute", GREAT), ("mute", -GREAT),
) + tuple(("tap", wrong) for wrong in NO_INTEGERS) + tuple(
    ("pace", wrong, 2) for wrong in NO_INTEGERS
) + tuple(("pace", 0, wrong) for wrong in NO_INTEGERS)
# Each with the place of the first thing that is wrong, for one TRACK.
NO_ROWS = tuple((thing, ()) for thing in NO_TUPLES) + (
    (((),) * 201, ()), ((None,) * 201, ()), ([(TAP,)], ()), ([], ()),
    (((), [TAP]), (1,)), (((TAP,), (TAP,) * 9), (1,)), (((TAP,), None, (), None), (1,)), (TAP, (0,)),
    (((TAP, None), 7), (1,)), (((("tap", 1),), (TAP,) * 9), (1,)), (((TAP,) * 8, (TAP, TAP, None, 0), (0,)), (1, 2)),
    (((), (("tap", 1),)), (1, 0)), (((), (TAP, ("pace", 0, True))), (1, 1)), (((TAP, list(TAP)),), (0, 1)),
)
# Each with the place of the first thing that is wrong.
EMPTY = ("empty", (), (), 0, 1, 2, 1, False)
NO_PEDALS = tuple((thing, ()) for thing in NO_TUPLES) + (
    ((), ()), ((EMPTY,) * 5, ()), ([EMPTY], ()), (EMPTY, ()), ((EMPTY[:7],), (0,)), ((EMPTY, list(EMPTY)), (1,)),
    ((EMPTY, EMPTY, None, None), (2,)), ((("play", ((1,),), (), 2, 1, 2, 1, False),), (0,)),
    ((EMPTY, ("play", ((1,),), (), 0, 1, 2, 1, 0)), (1,)), ((("stop", ((True,),), (), 0, 1, 2, 1, False),), (0,)),
)


class Refusals(unittest.TestCase):
    def refuse(self, error, call, **fields):
        """That the call raises just this error, with these fields."""
        with self.assertRaises(error) as caught:
            call()
        self.assertIs(type(caught.exception), error)
        for name, value in fields.items():
            self.assertEqual(getattr(caught.exception, name), value)
