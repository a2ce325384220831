"""Hindsight: what a guarded pool can know by all that it was given and told."""

from givenout.cases import start_case
from givenout.giving import is_unseen
from givenout.lores import answers_in
from givenout.states import shown_by
from givenout.threads import few_spread
from givenout.watches import as_named, formulas_of


class Hindsight:
    """The cases that are possible for a guard, beside whose secrets one more ask is noted.

    by_ways: the walks by each way, silence last; row: the numbers of the cases directly behind what was shown last.
    """

    def __init__(self, watch, asks, cases):
        self.watch = watch
        self.asks = asks
        self.by_ways = watch.walks_for(asks)
        self.row = [self.by_ways[0].number_of(case) for case in cases]

    def lore(self, way):
        """The numbers of all that is possible by this way now."""
        return list(few_spread(self.by_ways[way], self.row))

    def see(self, way, shown):
        """Goes on behind a move that showed this by the way."""
        if not is_unseen(shown):
            walks = self.by_ways[way]
            self.row = walks.all_behind(self.lore(way), walks.part_of(shown))

    def changed(self, way, watch):
        """The same behind a change of rules: by another watch of the guard."""
        walks = self.by_ways[way]
        cases = [walks.cases[number] for number in self.lore(way)]
        return Hindsight(watch, self.asks, as_named(walks.rules.house, self.watch.named, watch.named, cases))

    def possible(self, way):
        """The ascending tuple of the answers to the last ask that are possible."""
        return tuple(answers_in(self.by_ways[way], len(self.asks) - 1, self.lore(way)))


def known_answers(steps, state, number, ask):
    """The answers that are possible for the guard of this number behind all steps, which led to the state."""
    first = steps[0].start if steps != () else state
    watch = first.watches[number]
    asks = formulas_of(watch.secrets) + (ask,)
    behind = Hindsight(watch, asks, [start_case(state.rules.house, watch.named, asks)])
    for step in steps:
        way = step.start.ways[number]
        if step.moves == ():
            behind = behind.changed(way, step.end.watches[number])
        else:
            behind.see(way, shown_by(step.entry, behind.watch.named))
    return behind.possible(state.ways[number])
