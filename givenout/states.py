"""States: all of an office at a moment, and what moves and changes of rules make of it."""

from givenout.cases import start_case
from givenout.errors import NoMove
from givenout.forms import is_move
from givenout.giving import first_memory, given
from givenout.stands import first_stand, is_possible, stand_behind
from givenout.watches import as_named, formulas_of, watches_by


class State:
    """An office at a moment; it is not changed any more.

    memories: those of the readers of the rules; watches: those of the guards; places: for each the number of its
    thread; threads, ways: for each its thread, and the number of the way of this.
    """

    def __init__(self, rules, stand, memories, watches, places):
        self.rules = rules
        self.stand = stand
        self.memories = memories
        self.watches = watches
        self.places = places
        self.guards = tuple([watch.guard() for watch in watches])
        self.threads = tuple([watch.thread_at(place) for watch, place in zip(watches, places)])
        self.ways = tuple([watch.chosen[place] for watch, place in zip(watches, places)])

    def rules_for(self, reader):
        """The rules by which the reader is given the next move."""
        for watch, place in zip(self.watches, self.places):
            if reader in watch.named:
                return watch.rules_at(place)
        return self.rules


class Step:
    """What led from a state to the next one.

    start, end: both states; moves: the move alone, or () for a change of rules; entry: what is out by it; lines: what
    it adds to the journal.
    """

    def __init__(self, start, end, moves, entry, lines):
        self.start = start
        self.end = end
        self.moves = moves
        self.entry = entry
        self.lines = lines


def first_state(rules, guards):
    """The state ahead of all moves."""
    house = rules.house
    starts = [[start_case(house, pool, formulas_of(secrets))] for pool, secrets, _ in guards]
    watches = watches_by(rules, guards, starts)
    memories = tuple([first_memory(house) for _ in rules.readers])
    return State(rules, first_stand(house), memories, watches, tuple([0 for _ in guards]))


def shown_by(entry, readers):
    """What was shown to these readers, by what was given to each."""
    return tuple([items for reader, items in entry if reader in readers])


def led_on(state, move):
    """(for each reader the reader and the items that the move gives, the state behind the move)."""
    rules = state.rules
    if not is_move(rules.house, move) or not is_possible(rules.house, state.stand, move):
        raise NoMove(move)
    stand, rows = stand_behind(rules.house, state.stand, move)
    each = [
        given(state.rules_for(reader), reader, memory, move, rows)
        for reader, memory in zip(rules.readers, state.memories)]
    entry = tuple([(reader, items) for reader, (items, _) in zip(rules.readers, each)])
    places = [watch.behind(place, shown_by(entry, watch.named)) for watch, place in zip(state.watches, state.places)]
    memories = tuple([memory for _, memory in each])
    return (entry, State(rules, stand, memories, state.watches, tuple(places)))


def with_rules(state, rules):
    """The state behind a change to these rules of the house."""
    house = rules.house
    guards, starts = [], []
    for watch, place in zip(state.watches, state.places):
        guards.append((watch.pool, watch.secrets, watch.ways_left(rules)))
        named = tuple([reader for reader in watch.pool if reader in rules.readers])
        starts.append(as_named(house, watch.named, named, watch.lore_at(place)))
    watches = watches_by(rules, guards, starts)
    present = (state.stand, state.memories, ())
    memories = as_named(house, state.rules.readers, rules.readers, [present])[0][1]
    return State(rules, state.stand, memories, watches, tuple([0 for _ in guards]))
