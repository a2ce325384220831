"""Watches: guards by the rules that there are, with the threads of their pools."""

from givenout.errors import Telling
from givenout.forms import is_tuple_of
from givenout.giving import first_memory, is_pool, is_unseen
from givenout.keeping import are_secrets, words_of
from givenout.threads import Threads, few_spread
from givenout.trees import Trees
from givenout.walks import Walks, walks_beside
from givenout.ways import are_ways, is_way, rules_by

MOST_GUARDS = 2


def is_guard(rules, value):
    """Whether the value is a guard."""
    if not is_tuple_of(value, 3):
        return False
    pool, secrets, ways = value
    return is_pool(rules, pool) and are_secrets(rules.house, secrets) and are_ways(rules, pool, ways)


def are_guards(rules, value):
    """Whether the value is a tuple of none to two guards, with no reader in two pools."""
    if not isinstance(value, tuple) or len(value) > MOST_GUARDS or not all([is_guard(rules, guard) for guard in value]):
        return False
    readers = [reader for pool, _, _ in value for reader in pool]
    return len(set(readers)) == len(readers)


def formulas_of(secrets):
    """The formulas of the secrets."""
    return tuple([formula for formula, _ in secrets])


def as_named(house, named, others, cases):
    """The cases of these readers with the memories of the other ones: those who come have first ones."""
    found = []
    for stand, memories, notes in cases:
        kept = {reader: memory for reader, memory in zip(named, memories)}
        found.append((stand, tuple([kept.get(reader, first_memory(house)) for reader in others]), notes))
    return found


class Watch:
    """A guard by rules, and all threads that come by these of one, each with a number, that of the first one being 0.

    pool, secrets, ways: the guard, with the ways that are left; named: the readers of the pool whom the rules name;
    rules_by_way: the rules by each way, silence last; threads: the Threads; chosen: the number of the way of each
    thread, -1 for one that is not safe; by_numbers, by_asks: what thread_at and walks_for have worked out.
    """

    def __init__(self, rules, guard, cases):
        self.pool, self.secrets, self.ways = guard
        self.named = tuple([reader for reader in self.pool if reader in rules.readers])
        self.rules_by_way = rules_by(rules, self.named, self.ways)
        self.by_numbers = {}
        self.by_asks = {}
        by_ways = self.walks_for(formulas_of(self.secrets))
        row = tuple(sorted(set([by_ways[0].number_of(case) for case in cases])))
        self.threads = Threads(by_ways, words_of(self.secrets), row)
        trees = Trees(self.threads)
        self.chosen = [trees.way_of(number) for number in range(len(self.threads.rows))]

    def guard(self):
        """The guard, with the ways that are left."""
        return (self.pool, self.secrets, self.ways)

    def walks_for(self, asks):
        """The walks by each way, silence last, for these asks."""
        if asks not in self.by_asks:
            walks = Walks(self.rules_by_way[-1], self.named, asks)
            self.by_asks[asks] = [walks_beside(walks, rules) for rules in self.rules_by_way]
        return self.by_asks[asks]

    def is_safe(self):
        """Whether the first thread is safe."""
        return self.chosen[0] >= 0

    def rules_at(self, number):
        """The rules by which the readers are given what comes behind a thread."""
        return self.rules_by_way[self.chosen[number]]

    def thread_at(self, number):
        """The ascending tuple of the cases of a thread."""
        if number not in self.by_numbers:
            self.by_numbers[number] = self.threads.walks[0].told(self.threads.rows[number])
        return self.by_numbers[number]

    def lore_at(self, number):
        """The cases of the lore of a thread by its way."""
        walks = self.threads.walks[self.chosen[number]]
        return [walks.cases[case] for case in few_spread(walks, self.threads.rows[number])]

    def behind(self, number, shown):
        """The number of the thread that comes behind one by its way when this is shown to the readers."""
        if is_unseen(shown):
            return number
        part = self.threads.walks[0].part_of(shown)
        return self.threads.nexts[number][self.chosen[number]][part]

    def ways_left(self, rules):
        """The ways that these rules let."""
        return tuple([way for way in self.ways if is_way(rules, self.pool, way)])


def watches_by(rules, guards, starts):
    """The watches of the guards by the rules; starts: for each guard the cases of its first thread, which is safe."""
    watches = []
    for number, (guard, cases) in enumerate(zip(guards, starts)):
        watch = Watch(rules, guard, cases)
        if not watch.is_safe():
            raise Telling(number)
        watches.append(watch)
    return tuple(watches)
