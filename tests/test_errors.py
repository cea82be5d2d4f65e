"""errors.py: the classes, their bases, their fields."""

import copy
import itertools
import unittest

from pedalrounds.errors import (
    BadLengths, BadLoops, BadPaper, BadPedal, BadRow, BadText, Nothing, OutOfPlace, TooGreat,
)

UNDER_VALUE_ERROR = (BadLoops, BadLengths, BadPedal, BadRow, BadPaper, BadText, OutOfPlace)
ALL = UNDER_VALUE_ERROR + (TooGreat, Nothing)
FIELDS = {
    BadLoops: ("place",), BadLengths: ("place",), BadPedal: ("place",), BadRow: ("place",),
    BadPaper: ("part",), BadText: ("line", "word"), TooGreat: ("most",),
}
TEXTS = (OutOfPlace, Nothing)


class Unspeakable:
    """A thing that cannot be shown, compared or hashed."""

    __hash__ = None

    def __repr__(self):
        raise RuntimeError

    __str__ = __eq__ = __len__ = __bool__ = __repr__


ANY_THINGS = (None, True, 0, -1, 10 ** 5000, 1.5, "", "one", b"", (), (1, 2), [], {}, set(), int, Unspeakable())


class Bases(unittest.TestCase):
    def test_straight_under_their_bases(self):
        for kind in UNDER_VALUE_ERROR:
            self.assertEqual(kind.__bases__, (ValueError,), kind)
        self.assertEqual(TooGreat.__bases__, (OverflowError,))
        self.assertEqual(Nothing.__bases__, (LookupError,))

    def test_none_is_a_subclass_of_another_one(self):
        self.assertEqual(len(set(ALL)), 9)
        for one, other in itertools.permutations(ALL, 2):
            self.assertFalse(issubclass(one, other), (one, other))


class Fields(unittest.TestCase):
    def test_fields_by_position(self):
        for kind, names in FIELDS.items():
            things = [object() for name in names]
            made = kind(*things)
            for name, thing in zip(names, things):
                self.assertIs(getattr(made, name), thing)

    def test_fields_by_name(self):
        for kind, names in FIELDS.items():
            things = {name: object() for name in names}
            made = kind(**things)
            for name, thing in things.items():
                self.assertIs(getattr(made, name), thing)

    def test_the_two_fields_of_bad_text_in_their_order(self):
        made = BadText(3, 9)
        self.assertEqual((made.line, made.word), (3, 9))
        turned = BadText(word=3, line=9)
        self.assertEqual((turned.line, turned.word), (9, 3))
        mixed = BadText(1, word=2)
        self.assertEqual((mixed.line, mixed.word), (1, 2))

    def test_texts_by_position_and_by_name(self):
        for kind in TEXTS:
            self.assertIsInstance(kind("why"), kind)
            self.assertIsInstance(kind(text="why"), kind)

    def test_made_of_any_things(self):
        for thing in ANY_THINGS:
            for kind, names in FIELDS.items():
                made = kind(*[thing for name in names])
                named = kind(**{name: thing for name in names})
                for name in names:
                    self.assertIs(getattr(made, name), thing)
                    self.assertIs(getattr(named, name), thing)
            for kind in TEXTS:
                self.assertIsInstance(kind(thing), kind)
                self.assertIsInstance(kind(text=thing), kind)

    def test_as_many_arguments_as_told(self):
        for kind in ALL:
            many = len(FIELDS.get(kind, ("text",)))
            with self.assertRaises(TypeError):
                kind(*range(many - 1))
            with self.assertRaises(TypeError):
                kind(*range(many + 1))
            with self.assertRaises(TypeError):
                kind(other=1)

    def test_raised_and_caught_by_name_and_by_base(self):
        for kind in ALL:
            for caught in (kind, kind.__bases__[0]):
                with self.assertRaises(caught):
                    raise kind(*range(len(FIELDS.get(kind, ("text",)))))

    def test_a_copy_has_the_same_fields(self):
        for kind, names in FIELDS.items():
            made = copy.copy(kind(*range(len(names))))
            self.assertEqual([getattr(made, name) for name in names], list(range(len(names))))


if __name__ == "__main__":
    unittest.main()
