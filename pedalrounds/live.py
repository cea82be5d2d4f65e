"""A PEDAL that goes on."""

from pedalrounds.checks import is_whole, need_sample
from pedalrounds.errors import Nothing, OutOfPlace, TooGreat
from pedalrounds.pedals import behind_press, behind_tick, empty_pedal, heard_of, need_pedal, need_press, need_tracks
from pedalrounds.plays import MOST_PRESSES, MOST_STEPS


class Live:
    """A PEDAL that goes on by PRESSes and TICKs, and can be taken back."""

    def __init__(self, tracks=1, *, pedal=None):
        need_tracks(tracks)
        if pedal is None:
            pedal = empty_pedal(tracks)
        elif len(need_pedal(pedal)) != tracks:
            raise OutOfPlace("a PEDAL has as many TRACKs as are told")
        # The PEDAL at the beginning, then the one behind each TICK.
        self.pedals = (pedal,)
        self.steps = ()
        self.samples = ()
        self.told = ()
        # The PRESSes behind the last TICK, and the PEDAL behind them.
        self.waiting = ()
        self.now = pedal

    def __call__(self, sample):
        """What is heard in a TICK that takes in the sample."""
        need_sample(sample)
        if len(self.steps) == MOST_STEPS:
            raise TooGreat(MOST_STEPS)
        told = heard_of(self.now)
        self.now = behind_tick(self.now, sample)
        self.pedals = self.pedals + (self.now,)
        self.steps = self.steps + (self.waiting,)
        self.samples = self.samples + (sample,)
        self.told = self.told + (told,)
        self.waiting = ()
        return told

    def press(self, word, track, *, pace=None):
        """Do a PRESS, and tell whether it was not IDLE."""
        done = (word, track) if pace is None else (word, track, pace)
        need_press(self.now, done)
        if len(self.waiting) == MOST_PRESSES:
            raise TooGreat(MOST_PRESSES)
        before = self.now
        self.now = behind_press(before, done)
        self.waiting = self.waiting + (done,)
        return self.now != before

    @property
    def pedal(self):
        """The PEDAL now."""
        return self.now

    @property
    def row(self):
        """The ROW of all TICKs so far."""
        return self.steps

    @property
    def sound(self):
        """The samples of all TICKs so far."""
        return self.samples

    @property
    def heard(self):
        """What was heard in all TICKs so far."""
        return self.told

    def back(self, *, many=1):
        """Take so many TICKs back, with the PRESSes ahead of them and all behind."""
        if not is_whole(many) or many < 1:
            raise OutOfPlace("many is an integer from 1 on")
        if many > len(self.steps):
            raise Nothing("there are not so many TICKs")
        self.pedals = self.pedals[:-many]
        self.steps = self.steps[:-many]
        self.samples = self.samples[:-many]
        self.told = self.told[:-many]
        self.waiting = ()
        self.now = self.pedals[-1]

    def __len__(self):
        return len(self.steps)

    def copy(self):
        """A Live that goes on by itself."""
        fresh = Live(len(self.now), pedal=self.now)
        fresh.pedals = self.pedals
        fresh.steps = self.steps
        fresh.samples = self.samples
        fresh.told = self.told
        fresh.waiting = self.waiting
        return fresh

    def __eq__(self, other):
        if not isinstance(other, Live):
            return False
        return self.now == other.now and self.steps == other.steps and self.samples == other.samples

    def then(self, other):
        """A new Live that does what this one did and then what the other one did."""
        if not isinstance(other, Live) or len(other.now) != len(self.now):
            raise OutOfPlace("what comes then is a Live with as many TRACKs")
        steps = self.steps + other.steps
        samples = self.samples + other.samples
        fresh = Live(len(self.now), pedal=self.pedals[0])
        # If all these TICKs are too many, the new Live refuses the first one that is.
        for step, sample in zip(steps, samples):
            for press in step:
                fresh.now = behind_press(fresh.now, press)
            fresh.waiting = step
            fresh(sample)
        return fresh
