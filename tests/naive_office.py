"""An office, worked out plainly: over tests.naive_ways, the stands and what is given by rules."""

from givenout.changes import are_let, with_changes
from givenout.giving import first_memory, gives
from givenout.stands import after, first_stand, moves
from tests.naive_ways import Threads, silent


# Threads that were worked out, so that they need not be for each run.
KNOWN = {}


def threads_of(rules, named, secrets, ways, first):
    """All threads that come of the first one."""
    key = (rules.house.text, rules.text, named, secrets, ways, first and frozenset(first))
    if key not in KNOWN:
        KNOWN[key] = Threads(rules, named, secrets, ways, first)
    return KNOWN[key]


class Guard:
    """A guard by rules, with the thread of its pool."""

    def __init__(self, rules, pool, secrets, ways, first=None):
        self.pool, self.secrets, self.ways = pool, secrets, ways
        self.named = tuple(reader for reader in pool if reader in rules.readers)
        self.by = [with_changes(rules, way) for way in ways] + [silent(rules, self.named)]
        self.threads = threads_of(rules, self.named, secrets, ways, first)
        self.thread = self.threads.first

    def is_safe(self):
        return self.thread not in self.threads.sizes

    def way(self):
        return self.threads.way(self.thread)

    def look(self):
        return self.threads.looks[self.thread][self.way()]

    def changed(self, rules):
        """The guard by other rules."""
        named = [reader for reader in self.pool if reader in rules.readers]
        first = set()
        for stand, memories, notes in self.look()[0]:
            old = dict(zip(self.named, memories))
            none = first_memory(rules.house)
            first.add((stand, tuple(old.get(reader, none) for reader in named), notes))
        ways = tuple(way for way in self.ways
                     if are_let(rules, way) and all(change[1] in named for change in way))
        return Guard(rules, self.pool, self.secrets, ways, first)


class NaiveOffice:
    """What an office gives, and what its guards hold."""

    def __init__(self, rules, guards):
        self.rules = rules
        self.guards = [Guard(rules, *guard) for guard in guards]
        self.stand = first_stand(rules.house)
        self.memories = {reader: first_memory(rules.house) for reader in rules.readers}
        self.is_safe = all(guard.is_safe() for guard in self.guards)

    def do(self, move):
        self.stand, rows = after(self.rules.house, self.stand, move)
        told = {}
        for reader in self.rules.readers:
            rules = self.rules
            for guard in self.guards:
                if reader in guard.named:
                    rules = guard.by[guard.way()]
            told[reader], self.memories[reader] = gives(rules, reader, self.memories[reader], move, rows)
        for guard in self.guards:
            shown = tuple(told[reader] for reader in guard.named)
            if any(shown):
                guard.thread = guard.look()[2][shown]
        return tuple((reader, told[reader]) for reader in self.rules.readers)

    def change(self, rules):
        """Whether it can be done, guard by guard."""
        self.guards = [guard.changed(rules) for guard in self.guards]
        self.memories = {reader: self.memories.get(reader, first_memory(rules.house)) for reader in rules.readers}
        self.rules = rules
        self.is_safe = all(guard.is_safe() for guard in self.guards)


def seen_by(pool, readers, given):
    """What the pool was given, or None if it was given nothing."""
    shown = tuple(dict(given)[reader] for reader in pool if reader in readers)
    return shown if any(shown) else None


def histories(house, changes, most):
    """All runs of at most so many moves with these changes of rules in them, anywhere, in their sequence."""
    ahead = [((), first_stand(house), 0)]
    while ahead:
        done, stand, many = ahead.pop()
        if many == len(changes):
            yield done
        else:
            ahead.append((done + (changes[many],), stand, many + 1))
        if len(done) - many < most:
            ahead += [(done + (move,), after(house, stand, move)[0], many) for move in moves(house, stand)]


def played(rules, guards, pool, history):
    """What a history shows a pool: its parts, and the changes of rules among them."""
    office = NaiveOffice(rules, guards)
    told = []
    for step in history:
        if isinstance(step, tuple):
            readers, given = office.rules.readers, office.do(step)
            shown = seen_by(pool, readers, given)
            if shown is not None:
                told.append(shown)
        else:
            office.change(step)
            told.append(step.text)
    return tuple(told)
