"""Doubles: what comes for a pool and, beside it, for its mates by other rules; pairs of such."""

from givenout.pairs import Pairs, pair_steps
from givenout.walks import UNSEEN, in_rank

# Stands in the place of a pair behind two runs of which the mates were shown unlike things.
PARTED = (-1, -1)


class Doubles:
    """What comes for a pool and its mates by the same moves, each with a number, that of the first one being 0.

    own, beside: the walks of the pool and those of its mates; places: for each number those of its cases in both;
    cases: for each (stand, memories of the pool, memories of the mates); numbers: the number of each place.
    steps, shown: what steps_of has worked out, by numbers, and by these and moves what they show the mates.
    """

    def __init__(self, own, beside):
        self.own = own
        self.beside = beside
        self.places = []
        self.cases = []
        self.numbers = {}
        self.steps = {}
        self.shown = {}
        self.number_of((0, 0))

    def number_of(self, place):
        """The number of what has these numbers in both walks; the stand is the same in both."""
        number = self.numbers.get(place)
        if number is None:
            number = len(self.places)
            self.numbers[place] = number
            self.places.append(place)
            stand, memories, _ = self.own.cases[place[0]]
            self.cases.append((stand, memories, self.beside.cases[place[1]][1]))
        return number

    def number_at(self, case):
        """The number of a stand with the memories of the pool and of the mates, all by their forms."""
        stand, memories, others = case
        return self.number_of((self.own.number_of((stand, memories, ())), self.beside.number_of((stand, others, ()))))

    def steps_of(self, number):
        """For each move that is possible: (move, number of what it shows the pool, number of what is behind it)."""
        steps = self.steps.get(number)
        if steps is None:
            steps = []
            one, other = self.places[number]
            # The same moves in the same sequence, as the stands are the same.
            for (move, part, behind), (_, shown, after) in zip(self.own.steps_of(one), self.beside.steps_of(other)):
                steps.append((move, part, self.number_of((behind, after))))
                self.shown[(number, move)] = shown
            self.steps[number] = steps
        return steps

    def shown_by(self, number, move):
        """The number of what a move, or none, of those that steps_of told shows the mates."""
        return UNSEEN if move is None else self.shown[(number, move)]

    def are_parted(self, pair, moves):
        """Whether the mates are shown unlike things by these moves from a pair."""
        return self.shown_by(pair[0], moves[0]) != self.shown_by(pair[1], moves[1])

    def ranked(self):
        """All that have numbers, ascending, and the place among them of each number."""
        return in_rank(self.cases)


class DoublePairs(Pairs):
    """The pairs that come of doubles behind runs with one view of the pool; PARTED where the mates can tell them."""

    def steps_from(self, pair):
        """As pair_steps, but to PARTED where the mates are shown unlike things."""
        steps = []
        for moves, one, other in pair_steps(self.walks, pair):
            if self.walks.are_parted(pair, moves):
                one, other = PARTED
            steps.append((moves, one, other))
        return steps
