"""Members: cases behind runs, each with the lore of the view of its run."""

from givenout.errors import TooMany
from givenout.lores import LIMIT
from givenout.trails import trail_to


class Members:
    """The members that come by runs, those by shorter runs first, each with a number, that of the first one being 0.

    pairs: for each (number of the case, number of the lore); sources: for each (number of the member ahead of it,
    move), None for the first one; fresh: the numbers of those that came by the longest runs so far.
    """

    def __init__(self, lores):
        self.lores = lores
        self.pairs = []
        self.numbers = {}
        self.sources = []
        self.fresh = []
        self.take_in((0, 0), None)

    def take_in(self, pair, source):
        """Keeps a member, if it did not come before."""
        if pair not in self.numbers:
            self.numbers[pair] = len(self.pairs)
            self.fresh.append(len(self.pairs))
            self.pairs.append(pair)
            self.sources.append(source)

    def steps_of(self, number):
        """For each move that is possible in the case of a member: the move, and the member behind it, as a pair."""
        case, lore = self.pairs[number]
        steps = []
        for move, part, behind in self.lores.walks.steps_of(case):
            steps.append((move, (behind, self.lores.behind(lore, part))))
        return steps

    def go_on(self):
        """Takes in the members that come by runs with one move more."""
        last = list(self.fresh)
        self.fresh = []
        for number in last:
            for move, pair in self.steps_of(number):
                self.take_in(pair, (number, move))
            if len(self.pairs) > LIMIT:
                self.lores.make_haste()

    def need_few(self):
        """Refuses to go on if there are more members, or cases in a lore, than are looked at."""
        self.lores.need_few()
        if len(self.pairs) > LIMIT:
            raise TooMany(LIMIT)

    def take_all(self):
        """Takes in all members that come by any runs, unless there are too many."""
        while self.fresh != []:
            self.need_few()
            self.go_on()

    def run_to(self, number):
        """A run of fewest moves to the member."""
        return trail_to(self.sources, number)

    def told(self):
        """The ascending tuple of the lores, and (case, place of its lore, number of the member), ascending."""
        lores = self.lores
        cases, ranks = lores.walks.ranked()
        rows = sorted([(tuple(sorted([ranks[case] for case in row])), number) for number, row in enumerate(lores.rows)])
        places = {number: place for place, (_, number) in enumerate(rows)}
        members = sorted([(ranks[case], places[lore], number) for number, (case, lore) in enumerate(self.pairs)])
        return (tuple([tuple([cases[rank] for rank in row]) for row, _ in rows]),
                tuple([(cases[rank], place, number) for rank, place, number in members]))

    def table(self):
        """The ascending tuples of the lores and of all (case, place of its lore)."""
        lores, members = self.told()
        return (lores, tuple([(case, place) for case, place, _ in members]))
