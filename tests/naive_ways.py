"""Threads, plans and trees, worked out plainly over Python's sets, for small houses."""

from givenout.changes import with_changes
from givenout.rules import Rules
from tests.naive import Naive


def silent(rules, pool):
    """The rules without all that stands below the kinds of the readers of the pool."""
    lines, reader, is_kind = [], "", False
    for line in rules.text.split("\n"):
        if line.startswith("reader "):
            reader, is_kind = line[7:], False
        if line.startswith("  kind "):
            is_kind = True
        if not (is_kind and reader in pool):
            lines.append(line)
    return Rules(rules.house, "\n".join(lines))


class Threads:
    """All threads that come of one, by which ways they are safe."""

    def __init__(self, rules, pool, secrets, ways, first=None):
        asks = tuple(formula for formula, _ in secrets)
        by = [with_changes(rules, way) for way in ways] + [silent(rules, pool)]
        self.by_ways = [Naive(rules, pool, asks) for rules in by]
        self.words = [word for _, word in secrets]
        self.first = frozenset(first or [self.by_ways[0].first])
        self.looks = {}
        ahead = [self.first]
        while ahead:
            thread = ahead.pop()
            if thread not in self.looks:
                self.looks[thread] = [self.look(naive, thread) for naive in self.by_ways]
                ahead += [behind for _, _, nexts in self.looks[thread] for behind in nexts.values()]
        self.sizes = self.least_sizes()

    def look(self, naive, thread):
        """(the lore, which secrets are out in it, for each thing that can be shown the thread behind)."""
        lore = naive.closed(thread)
        nexts = {}
        for case in lore:
            for _, shown, behind in naive.steps(case):
                if shown != naive.unseen:
                    nexts.setdefault(shown, set()).add(behind)
        return (lore, naive.out(lore, self.words), {shown: frozenset(cases) for shown, cases in nexts.items()})

    def cost(self, look, sizes):
        """How many parts a tree has at least for a way, None as long as there is none."""
        _, out, nexts = look
        if out:
            return 1
        return min([1 + sizes[behind] for behind in nexts.values() if behind in sizes], default=None)

    def least_sizes(self):
        """For each thread that is not safe how many parts its least tree has."""
        sizes, is_changed = {}, True
        while is_changed:
            is_changed = False
            for thread, looks in self.looks.items():
                costs = [self.cost(look, sizes) for look in looks]
                if None not in costs and sizes.get(thread) != sum(costs):
                    sizes[thread] = sum(costs)
                    is_changed = True
        return sizes

    def way(self, thread):
        """The number of the way of a thread that is safe."""
        for number, (_, out, nexts) in enumerate(self.looks[thread]):
            if not out and not any(behind in self.sizes for behind in nexts.values()):
                return number
        return None

    def plan(self):
        """The plan of the first thread, which is safe."""
        plan, ahead = {}, [self.first]
        while ahead:
            thread = ahead.pop()
            if thread not in plan:
                plan[thread] = self.way(thread)
                ahead += list(self.looks[thread][plan[thread]][2].values())
        return tuple(sorted((tuple(sorted(thread)), way) for thread, way in plan.items()))


def held(rules, pool, secrets, ways):
    """("held", plan) or ("lost", how many parts a tree has at least)."""
    threads = Threads(rules, pool, secrets, ways)
    if threads.first in threads.sizes:
        return ("lost", threads.sizes[threads.first])
    return ("held", threads.plan())


def parts_of(tree):
    """How many parts a tree has."""
    return sum([1 if branch[0] == "out" else 1 + parts_of(branch[2]) for branch in tree])
