from givenout.stretches import Stretches
from tests.helpers import Case


class Members:
    """Members as they are told by hand: for each number (move, number behind)."""

    def __init__(self, steps):
        self.steps = steps
        self.numbers = {number: number for number in steps}

    def steps_of(self, number):
        return self.steps[number]


X, Y, NIGHT = ("do", "x", "a", 0), ("do", "y", "a", 0), ("night",)


def stretches_of(steps, unsure):
    return Stretches(Members(steps), {number: True for number in unsure}, "x")


class StretchesTest(Case):

    STEPS = {0: [(X, 1), (NIGHT, 2)], 1: [(Y, 2), (X, 4)], 2: [(X, 3), (NIGHT, 2)], 3: [(NIGHT, 4)], 4: [(X, 4)]}

    def test_layers(self):
        self.same([sorted(layer) for layer in stretches_of(self.STEPS, (0, 1, 2, 3)).layers()],
                  [[0, 1, 2, 3], [0, 1, 2], [0], []])
        self.same([sorted(layer) for layer in stretches_of(self.STEPS, (0, 1, 3)).layers()], [[0, 1, 3], [0], []])
        self.same([sorted(layer) for layer in stretches_of(self.STEPS, ()).layers()], [[]])
        self.same([sorted(layer) for layer in stretches_of(self.STEPS, (3,)).layers()], [[3], []])

    def test_layers_that_never_end(self):
        layers = stretches_of(self.STEPS, (0, 1, 2, 3, 4)).layers()
        self.same([sorted(layer) for layer in layers], [[0, 1, 2, 3, 4], [0, 1, 2, 3, 4]])
        self.same([sorted(layer) for layer in stretches_of(self.STEPS, (1, 4)).layers()], [[1, 4], [1, 4]])

    def test_ways_to_the_deed(self):
        stretches = stretches_of(self.STEPS, (0, 1, 2, 3))
        self.same(stretches.to_deed(0, {3: True}), ((NIGHT, X), 3))
        self.same(stretches.to_deed(0, {1: True, 3: True}), ((X,), 1))
        self.same(stretches.to_deed(1, {3: True}), ((Y, X), 3))
        self.same(sorted(stretches.before({3: True})), [0, 1, 2])
        self.same(sorted(stretches.before({1: True})), [0])
        self.same(stretches.before({0: True}), {})
