"""Pairs: two cases behind runs with one view."""

from givenout.walks import UNSEEN


def in_order(one, other):
    """The pair of these numbers of cases, the lesser one first."""
    return (one, other) if one <= other else (other, one)


def pair_steps(walks, pair):
    """What leads on from a pair and keeps the views alike: ((move of one or None, of the other or None), one, other).

    One of the two is led on by an unseen move, or both by moves that show the same.
    """
    one, other = pair
    steps = []
    alike = {}
    for move, part, behind in walks.steps_of(other):
        if part == UNSEEN:
            steps.append(((None, move), one, behind))
        else:
            alike.setdefault(part, []).append((move, behind))
    for move, part, behind in walks.steps_of(one):
        if part == UNSEEN:
            steps.append(((move, None), behind, other))
        for other_move, other_behind in alike.get(part, []):
            steps.append(((move, other_move), behind, other_behind))
    return steps


class Pairs:
    """The pairs that come, each one by as few moves in both runs as can be.

    sources: for each pair (pair ahead of it, its moves as of pair_steps, whether the cases stand the other way round
    behind them), None for the first pair; fresh: the pairs that came by the greatest number of moves so far;
    nearer, farther: (pair, source) of all that may come by one move more, and by two.
    """

    def __init__(self, walks):
        self.walks = walks
        self.sources = {}
        self.fresh = []
        self.nearer = [((0, 0), None)]
        self.farther = []

    def is_done(self):
        """Whether no more can come."""
        return self.nearer == [] and self.farther == []

    def take_nearer(self):
        """Takes in the pairs that come by one move more."""
        self.fresh = []
        for pair, source in self.nearer:
            if pair not in self.sources:
                self.sources[pair] = source
                self.fresh.append(pair)
        self.nearer = self.farther
        self.farther = []

    def steps_from(self, pair):
        """What leads on from a pair, as pair_steps tells it."""
        return pair_steps(self.walks, pair)

    def look_ahead(self):
        """Finds out what comes of the pairs that were taken in last."""
        for ahead in self.fresh:
            for moves, one, other in self.steps_from(ahead):
                pair = in_order(one, other)
                if pair not in self.sources:
                    told = (pair, (ahead, moves, one > other))
                    if None in moves:
                        self.nearer.append(told)
                    else:
                        self.farther.append(told)

    def runs_to(self, pair):
        """The two runs that lead to a pair."""
        one, other = [], []
        # Where in the pair the case stands to which the first of the two runs leads.
        at = 0
        while self.sources[pair] is not None:
            pair, moves, is_turned = self.sources[pair]
            if is_turned:
                at = 1 - at
            one.append(moves[at])
            other.append(moves[1 - at])
        return (tuple([move for move in one[::-1] if move is not None]),
                tuple([move for move in other[::-1] if move is not None]))

    def told(self):
        """The ascending tuple of all pairs of cases."""
        cases, ranks = self.walks.ranked()
        rows = sorted([in_order(ranks[one], ranks[other]) for one, other in self.sources])
        return tuple([(cases[one], cases[other]) for one, other in rows])
