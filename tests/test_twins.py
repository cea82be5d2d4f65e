"""twins.py: point [17], and point [1] as far as twins.py keeps it."""

import copy
import itertools
import random
import unittest

from pedalrounds.errors import BadPedal, OutOfPlace
from pedalrounds.pedals import EMPTY, need_pedal
from pedalrounds.plays import played
from pedalrounds.twins import are_twins, plain
from models import chance_pedal, chance_row, chance_sound
from wrongs import NO_PEDALS, Refusals

RECORD = ("record", ((5,),), (), 0, 1, 2, 1, False)
SHORT = ("play", ((5,), (6,)), ((7,),), 1, -1, 4, -1, True)
SHORT_DUB = ("dub", ((5,), (6,)), (), 1, -1, 1, -1, False)
SHORT_STOP = ("stop", ((5,),), ((7,),), 0, -1, 4, 1, True)
LONG = ("play", ((5, 1), (6, 2)), ((7, 3),), 3, -1, 4, -1, True)
LONG_DUB = ("dub", ((5, 1), (6, 2)), (), 1, -1, 1, -1, False)
LONG_STOP = ("stop", ((5, 1),), ((7, 3),), 0, -1, 4, 1, True)
ALL = (EMPTY, RECORD, SHORT, SHORT_DUB, SHORT_STOP, LONG, LONG_DUB, LONG_STOP)


def put(track, part, thing):
    return track[:part] + (thing,) + track[part + 1:]


def flawless(track):
    """The TRACK as its PLAIN form is told."""
    if track[0] in ("play", "dub", "stop") and len(track[1][0]) == 1:
        return track[:3] + (0, 1, 2) + track[6:]
    return track


class Plain(Refusals):
    def test_tracks_with_the_length_1(self):
        for track in (SHORT, SHORT_DUB, SHORT_STOP):
            self.assertEqual(plain((track,)), (track[:3] + (0, 1, 2) + track[6:],))

    def test_each_point_way_and_pace(self):
        for mode, layers in (("play", ((5,),)), ("dub", ((5,), (6,))), ("stop", ((5,),))):
            for point, way, pace in itertools.product((0, 1), (1, -1), (1, 2, 4)):
                if mode != "stop" or point == 0:
                    for sign, muted in itertools.product((1, -1), (True, False)):
                        track = (mode, layers, (), point, way, pace, sign, muted)
                        self.assertEqual(plain((track,)), ((mode, layers, (), 0, 1, 2, sign, muted),))

    def test_all_others_stay_as_they_are(self):
        for track in (EMPTY, RECORD, LONG, LONG_DUB, LONG_STOP):
            self.assertEqual(plain((track,)), (track,))
        for length in range(2, 65):
            track = ("play", ((3,) * length,), (), 1, -1, 1, 1, False)
            self.assertEqual(plain((track,)), (track,))

    def test_track_by_track(self):
        for pedal in itertools.product(ALL, repeat=2):
            self.assertEqual(plain(pedal), tuple(flawless(track) for track in pedal))
        self.assertEqual(plain(ALL[:4]), tuple(flawless(track) for track in ALL[:4]))
        self.assertEqual(plain(ALL[4:]), tuple(flawless(track) for track in ALL[4:]))

    def test_it_is_a_pedal_and_its_own_plain_form(self):
        chance = random.Random(81)
        for turn in range(60):
            told = plain(chance_pedal(chance, None, 2))
            self.assertIs(need_pedal(told), told)
            self.assertEqual(plain(told), told)

    def test_no_pedals(self):
        for pedal, place in NO_PEDALS:
            self.refuse(BadPedal, lambda: plain(pedal), place=place)


class AreTwins(Refusals):
    def both_ways(self, one, other, told):
        self.assertIs(are_twins(one, other), told)
        self.assertIs(are_twins(other, one), told)

    def test_equal_pedals(self):
        for track in ALL:
            self.both_ways((track,), (copy.deepcopy(track),), True)
            self.both_ways((EMPTY, track), (EMPTY, track), True)

    def test_the_length_1(self):
        for track in (SHORT, SHORT_DUB):
            for point, way, pace in itertools.product((0, 1), (1, -1), (1, 2, 4)):
                other = track[:3] + (point, way, pace) + track[6:]
                self.both_ways((track,), (other,), True)
                self.both_ways((LONG, track, EMPTY), (LONG, other, EMPTY), True)
        for way, pace in itertools.product((1, -1), (1, 2, 4)):
            self.both_ways((SHORT_STOP,), (SHORT_STOP[:4] + (way, pace) + SHORT_STOP[6:],), True)

    def test_greater_lengths(self):
        for part, things in ((3, (0, 1, 2)), (4, (1,)), (5, (1, 2))):
            for thing in things:
                self.both_ways((LONG,), (put(LONG, part, thing),), False)
        for part, thing in ((3, 0), (4, 1), (5, 4)):
            self.both_ways((LONG_DUB,), (put(LONG_DUB, part, thing),), False)
        for part, thing in ((4, 1), (5, 2)):
            self.both_ways((LONG_STOP,), (put(LONG_STOP, part, thing),), False)

    def test_each_other_part(self):
        for track, others in (
            (SHORT, (
                put(SHORT, 1, ((5,), (7,))), put(SHORT, 1, ((6,), (5,))), put(SHORT, 1, ((5,),)), put(SHORT, 2, ()),
                put(SHORT, 2, ((8,),)), put(SHORT, 6, 1), put(SHORT, 7, False), ("stop",) + put(SHORT, 3, 0)[1:],
                put(SHORT, 2, ((7,), (7,))), put(SHORT, 1, ((11,),)), EMPTY, LONG, RECORD,
                ("play", ((5, 5), (6, 6)), ((7, 7),), 1, -1, 4, -1, True),
            )),
            (SHORT_DUB, (
                ("play",) + SHORT_DUB[1:], put(SHORT_DUB, 1, ((5,), (6,), (0,))), put(SHORT_DUB, 6, 1),
                put(SHORT_DUB, 7, True), put(SHORT_DUB, 1, ((6,), (5,))),
            )),
            (SHORT_STOP, (("play",) + SHORT_STOP[1:], put(SHORT_STOP, 6, -1), put(SHORT_STOP, 7, False))),
            (RECORD, (EMPTY, put(RECORD, 1, ((),)), put(RECORD, 1, ((4,),)), put(RECORD, 1, ((5, 0),)))),
            (LONG, (put(LONG, 1, ((5, 1), (6, 3))), put(LONG, 2, ()), put(LONG, 6, 1), put(LONG, 7, False))),
        ):
            for other in others:
                self.both_ways((track,), (other,), False)
                self.both_ways((EMPTY, track), (EMPTY, other), False)

    def test_the_order_of_the_tracks(self):
        self.both_ways((SHORT, LONG), (LONG, SHORT), False)
        self.both_ways((SHORT, put(SHORT, 3, 0)), (put(SHORT, 3, 0), SHORT), True)

    def test_twins_are_heard_alike(self):
        chance = random.Random(82)
        for turn in range(40):
            one = chance_pedal(chance, None, 1)
            other = tuple(
                track[:3] + (chance.choice((0, track[3])), -track[4], chance.choice((1, 2, 4))) + track[6:]
                if track[0] in ("play", "dub", "stop") else track for track in one
            )
            self.both_ways(one, other, True)
            row = chance_row(chance, len(one), 60)
            sound = chance_sound(chance, 60)
            self.assertEqual(played(row, sound, pedal=one)[0], played(row, sound, pedal=other)[0])

    def test_unlike_numbers_of_tracks(self):
        for one, other in itertools.permutations(range(1, 5), 2):
            self.refuse(OutOfPlace, lambda: are_twins((EMPTY,) * one, (EMPTY,) * other))

    def test_refused_from_left_to_right(self):
        for pedal, place in NO_PEDALS:
            self.refuse(BadPedal, lambda: are_twins(pedal, (EMPTY,)), place=place)
            self.refuse(BadPedal, lambda: are_twins((EMPTY,) * 4, pedal), place=place)
            self.refuse(BadPedal, lambda: are_twins(pedal, (EMPTY,) * 3 + (None,)), place=place)
            self.refuse(BadPedal, lambda: are_twins((EMPTY,) * 3 + (None,), pedal), place=(3,))
            self.refuse(BadPedal, lambda: are_twins(other=(EMPTY,) * 3 + (None,), one=pedal), place=place)


class Calls(Refusals):
    def test_by_name(self):
        self.assertEqual(plain(pedal=(EMPTY,)), (EMPTY,))
        self.assertIs(are_twins(other=(EMPTY,), one=(RECORD,)), False)

    def test_equal_calls_tell_the_same_and_change_nothing(self):
        kept = copy.deepcopy(ALL)
        for one, other in itertools.product(ALL, repeat=2):
            self.assertEqual(plain((one, other)), plain((one, other)))
            self.assertIs(are_twins((one,), (other,)), are_twins((one,), (other,)))
        self.assertEqual(ALL, kept)


if __name__ == "__main__":
    unittest.main()
