"""A second model of TRACKs, what is heard of it, and ROWs and PEDALs by chance."""

WORDS = ("tap", "stop", "clear", "undo", "redo", "join", "turn", "flip", "mute")


def presses_of(tracks):
    """Each PRESS for so many TRACKs."""
    words = [(word, number) for word in WORDS for number in range(tracks)]
    return words + [("pace", number, pace) for number in range(tracks) for pace in (1, 2, 4)]


class Model:
    """A TRACK once more, changed in place, part by part as the document tells it."""

    def __init__(self):
        self.clear()

    def clear(self):
        self.mode, self.layers, self.undone = "empty", [], []
        self.point, self.way, self.pace, self.sign, self.muted = 0, 1, 2, 1, False

    def track(self):
        layers = tuple(tuple(layer) for layer in self.layers)
        undone = tuple(tuple(layer) for layer in self.undone)
        return (self.mode, layers, undone, self.point, self.way, self.pace, self.sign, self.muted)

    def tap(self):
        if self.mode == "empty":
            self.mode, self.layers = "record", [[]]
        elif self.mode == "record" and not self.layers[0]:
            self.clear()
        elif self.mode in ("record", "dub", "stop"):
            self.mode = "play"
        elif len(self.layers) < 4:
            self.mode, self.undone = "dub", []
            self.layers.append([0 for cell in self.layers[0]])

    def stop(self):
        if self.mode == "record" and not self.layers[0]:
            self.clear()
        elif self.mode != "empty":
            self.mode, self.point = "stop", 0

    def press(self, word, pace=None):
        if word in ("tap", "stop", "clear"):
            getattr(self, word)()
        elif self.mode in ("play", "dub", "stop"):
            if word == "undo" and len(self.layers) >= 2:
                self.undone.append(self.layers.pop())
                self.mode = "play" if self.mode == "dub" else self.mode
            if word == "redo" and self.undone:
                self.layers.append(self.undone.pop())
            if word == "join" and len(self.layers) >= 2 and self.mode != "dub":
                self.layers, self.undone = [[sum(cells) for cells in zip(*self.layers)]], []
            self.way *= -1 if word == "turn" else 1
            self.sign *= -1 if word == "flip" else 1
            self.muted = self.muted != (word == "mute")
            self.pace = pace or self.pace

    def tick(self, sample):
        heard = 0
        if self.mode == "record":
            self.layers[0].append(sample)
            if len(self.layers[0]) == 64:
                self.mode = "play"
        elif self.mode in ("play", "dub"):
            cell = self.point // 2
            if not self.muted:
                heard = self.sign * sum(layer[cell] for layer in self.layers)
            if self.mode == "dub":
                self.layers[-1][cell] += sample
            self.point += self.way * self.pace
            while self.point < 0:
                self.point += 2 * len(self.layers[0])
            while self.point >= 2 * len(self.layers[0]):
                self.point -= 2 * len(self.layers[0])
        return heard


def model_of(track):
    """A model that goes on from a TRACK."""
    model = Model()
    model.mode = track[0]
    model.layers = [list(layer) for layer in track[1]]
    model.undone = [list(layer) for layer in track[2]]
    model.point, model.way, model.pace, model.sign, model.muted = track[3:]
    return model


def models_of(pedal):
    return [model_of(track) for track in pedal]


def pedal_of(models):
    return tuple(model.track() for model in models)


def play(models, row, sound):
    """What is heard of the models at each tick of a ROW with a SOUND."""
    told = []
    for step, sample in zip(row, sound):
        for press in step:
            models[press[1]].press(press[0], *press[2:])
        told.append(sum([model.tick(sample) for model in models]))
    return told


def wait(models, ticks):
    """What is heard of the models at so many ticks to which nothing more happens."""
    return play(models, ((),) * ticks, (0,) * ticks)


def heard_of_row(tracks, row, sound, ticks):
    """What is heard of a ROW from EMPTY TRACKs, and so many ticks LATER."""
    models = [Model() for number in range(tracks)]
    return play(models, row, sound) + wait(models, ticks)


def unit(many, index):
    """A SOUND that is 1 at one STEP alone."""
    return tuple(int(at == index) for at in range(many))


def shares_by_units(tracks, row, ticks):
    """The SHARES at the ticks of a ROW and so many LATER ones, from one play for each STEP."""
    many = len(row)
    heard = [heard_of_row(tracks, row, unit(many, index), ticks) for index in range(many)]
    return [tuple(told[tick] for told in heard) for tick in range(many + ticks)]


def chance_row(chance, tracks, steps, most=3, taps=8):
    """A ROW of so many STEPS, of which many have no PRESS, and many PRESSes are taps."""
    choices = presses_of(tracks) + [("tap", number) for number in range(tracks)] * taps
    numbers = (0, 0) + tuple(range(most + 1))
    return tuple(
        tuple(chance.choice(choices) for press in range(chance.choice(numbers))) for step in range(steps)
    )


def chance_sound(chance, steps, most=99):
    return tuple(chance.randint(-most, most) for step in range(steps))


def chance_track(chance, longest=64, mode=None, most=99):
    """A TRACK of any MODE, or of the one that is told."""
    mode = mode or chance.choice(("empty", "record", "play", "play", "dub", "dub", "stop"))
    if mode == "empty":
        return ("empty", (), (), 0, 1, 2, 1, False)
    if mode == "record":
        return ("record", (chance_sound(chance, chance.randint(0, longest - 1), most),), (), 0, 1, 2, 1, False)
    length = chance.randint(1, longest)
    many = chance.randint(1 + (mode == "dub"), 4)
    layers = tuple(chance_sound(chance, length, most) for layer in range(many))
    shown = many if mode == "dub" else chance.randint(1, many)
    point = 0 if mode == "stop" else chance.randint(0, 2 * length - 1)
    switches = (chance.choice((1, -1)), chance.choice((1, 2, 4)), chance.choice((1, -1)), chance.random() < 0.2)
    return (mode, layers[:shown], layers[shown:], point) + switches


def chance_pedal(chance, tracks=None, longest=64, mode=None, most=99):
    many = tracks or chance.randint(1, 4)
    return tuple(chance_track(chance, longest, mode, most) for number in range(many))
