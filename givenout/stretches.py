"""Stretches: moves that lead from unsure members to unsure ones, and how often a deed can be done by them."""

from givenout.forms import NIGHT
from givenout.trails import trail_to


class Stretches:
    """The unsure members, by their numbers, and the moves between them.

    ahead: for each (move, number of the unsure member behind it, whether the move does the deed); sources: for each the
    numbers of those from which moves lead to it; deeds: for each move that does the deed both members.
    """

    def __init__(self, members, unsure, deed):
        self.ahead = {}
        self.sources = {number: [] for number in unsure}
        self.deeds = []
        for number in unsure:
            self.ahead[number] = []
            for move, pair in members.steps_of(number):
                behind = members.numbers[pair]
                if behind in unsure:
                    self.take_in(number, move, behind, move != NIGHT and move[1] == deed)

    def take_in(self, number, move, behind, is_deed):
        """Keeps a move between two of them."""
        self.ahead[number].append((move, behind, is_deed))
        self.sources[behind].append(number)
        if is_deed:
            self.deeds.append((number, behind))

    def before(self, goals):
        """The members from which a stretch leads that ends with the deed, done into one of the goals."""
        found = {number: True for number, behind in self.deeds if behind in goals}
        ahead = list(found)
        while ahead != []:
            fresh = []
            for number in ahead:
                for source in self.sources[number]:
                    if source not in found:
                        found[source] = True
                        fresh.append(source)
            ahead = fresh
        return found

    def layers(self):
        """For each number, from 0, the members from which a stretch leads in which the deed is done so often.

        The last layer is empty; or it is the one ahead of it once more, as each further one would be.
        """
        layers = [{number: True for number in self.ahead}]
        while layers[-1] != {} and (len(layers) == 1 or len(layers[-1]) < len(layers[-2])):
            layers.append(self.before(layers[-1]))
        return layers

    def to_deed(self, start, goals):
        """A stretch from a member, which has one, that ends with the deed, done into one of the goals; and this one."""
        sources = {start: None}
        ahead = [start]
        while ahead != []:
            fresh = []
            for number in ahead:
                for move, behind, is_deed in self.ahead[number]:
                    if is_deed and behind in goals:
                        return (trail_to(sources, number) + (move,), behind)
                    if behind not in sources:
                        sources[behind] = (number, move)
                        fresh.append(behind)
            ahead = fresh
        return ((), start)
