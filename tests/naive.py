"""The same answers as the program's, worked out plainly over Python's sets, for small houses."""

import heapq
import itertools

from givenout.cases import cases_behind, first_case, start_case, steps_from
from givenout.giving import view
from givenout.notes import answer_by
from givenout.stands import after, first_stand, moves


def runs_up_to(house, most):
    """All runs of at most so many moves."""
    told = last = [((), first_stand(house))]
    for _ in range(most):
        last = [(run + (move,), after(house, stand, move)[0]) for run, stand in last for move in moves(house, stand)]
        told = told + last
    return [run for run, _ in told]


def in_order(one, other):
    return (one, other) if one <= other else (other, one)


class Naive:
    """What comes for a pool and some asks."""

    def __init__(self, rules, pool, asks):
        self.rules, self.pool, self.asks = rules, pool, asks
        self.first = first_case(rules, pool, asks) if pool else start_case(rules.house, pool, asks)
        self.unseen = tuple(() for _ in pool)
        self.known = {}

    def steps(self, case):
        if case not in self.known:
            # Of a guarded pool perhaps nobody is named any more; cases_behind refuses that.
            look = cases_behind if self.pool else steps_from
            self.known[case] = look(self.rules, self.pool, self.asks, case)
        return self.known[case]

    def closed(self, cases):
        """All that comes of the cases by unseen moves."""
        found, ahead = set(cases), list(cases)
        while ahead:
            for _, shown, behind in self.steps(ahead.pop()):
                if shown == self.unseen and behind not in found:
                    found.add(behind)
                    ahead.append(behind)
        return frozenset(found)

    def behind(self, lore, shown):
        """The lore behind another one; shown None: something, it is not known what."""
        return self.closed([behind for case in lore for _, other, behind in self.steps(case)
                            if (other != self.unseen if shown is None else other == shown)])

    def lores(self, told):
        """The lores ahead of the view and behind its parts."""
        lores = [self.closed([self.first])]
        for shown in told:
            lores.append(self.behind(lores[-1], shown))
        return lores

    def answer(self, case, place=0):
        return answer_by(self.rules.house, self.asks[place], case[0][0], case[2][place])

    def answers(self, lore, place=0):
        return tuple(sorted({self.answer(case, place) for case in lore}))

    def out(self, lore, words):
        """The numbers of the secrets that are out in a lore."""
        told = [self.answers(lore, place) for place in range(len(words))]
        return [place for place, word in enumerate(words)
                if len(told[place]) == 1 and (word == "whether" or told[place][0] == (word == "yes"))]

    def member_behind(self, member, shown, case):
        return (case, member[1] if shown == self.unseen else self.behind(member[1], shown))

    def next_members(self, member):
        return [(move, self.member_behind(member, shown, case)) for move, shown, case in self.steps(member[0])]

    def levels(self):
        """For each length of runs, from 0, the members that come by runs so long and by no shorter ones."""
        level = {(self.first, self.closed([self.first]))}
        seen = set(level)
        while level:
            yield level
            level = {behind for member in level for _, behind in self.next_members(member)} - seen
            seen |= level

    def table(self, members):
        """The ascending lores, and the ascending (case, number of its lore)."""
        lores = sorted({tuple(sorted(lore)) for _, lore in members})
        return (tuple(lores), tuple(sorted((case, lores.index(tuple(sorted(lore)))) for case, lore in members)))

    def next_pairs(self, pair):
        """(how many moves, pair behind): either is led on by an unseen move, or both by such as show the same."""
        for one, other in (pair, pair[::-1]):
            for _, shown, behind in self.steps(one):
                if shown == self.unseen:
                    yield 1, in_order(behind, other)
                else:
                    for _, same, beside in self.steps(other):
                        if same == shown:
                            yield 2, in_order(behind, beside)


def kept(rules, pool, secrets):
    """("out", how many moves) or ("kept", lores, members)."""
    naive = Naive(rules, pool, tuple(formula for formula, _ in secrets))
    members = set()
    for length, level in enumerate(naive.levels()):
        if any(naive.out(lore, [word for _, word in secrets]) for _, lore in level):
            return ("out", length)
        members |= level
    return ("kept",) + naive.table(members)


def needed(rules, pool, ask):
    """("open", how many moves) or ("sure", table)."""
    naive = Naive(rules, pool, (ask,))
    seen = set()
    ahead = [(0, (naive.first, naive.first))]
    while ahead:
        length, pair = heapq.heappop(ahead)
        if naive.answer(pair[0]) != naive.answer(pair[1]):
            return ("open", length)
        if pair not in seen:
            seen.add(pair)
            for more, behind in naive.next_pairs(pair):
                heapq.heappush(ahead, (length + more, behind))
    return ("sure", tuple(sorted(seen)))


def waiting(rules, pool, ask, deed):
    """("endless",) or ("most", number, heights)."""
    naive = Naive(rules, pool, (ask,))
    members = set().union(*naive.levels())
    heights = {member: 0 if len(naive.answers(member[1])) > 1 else -1 for member in members}
    steps = [(member, move[0] == "do" and move[1] == deed, behind) for member in members
             for move, behind in naive.next_members(member) if heights[member] == heights[behind] == 0]
    is_changed = True
    while is_changed:
        is_changed = False
        for member, is_deed, behind in steps:
            if heights[member] < heights[behind] + is_deed:
                heights[member] = heights[behind] + is_deed
                is_changed = True
        if max(heights.values()) > len(members):
            return ("endless",)
    lores, _ = naive.table(members)
    rows = sorted((case, lores.index(tuple(sorted(lore))), height) for (case, lore), height in heights.items())
    return ("most", max(heights.values()), (lores, tuple(rows)))


def enough(rules, pool, ask, run):
    """The answers if there are several, else the numbers of the parts that stay."""
    naive = Naive(rules, pool, (ask,))
    told = view(rules, pool, run)

    def ends(hidden):
        return naive.answers(naive.lores([None if at in hidden else shown for at, shown in enumerate(told)])[-1])

    if len(ends(())) > 1:
        return ("unsure", ends(()))
    hidden = []
    for at in range(len(told)):
        if len(ends(hidden + [at])) == 1:
            hidden.append(at)
    return ("enough", tuple(at for at in range(len(told)) if at not in hidden))


def told(rules, ask, run):
    """The least pools that know the answer behind the run, each with its lores, and the greatest that do not."""
    pools = [pool for many in (1, 2, 3) for pool in itertools.combinations(rules.readers, many)]
    lores = {pool: Naive(rules, pool, (ask,)).lores(view(rules, pool, run)) for pool in pools}
    knows = {pool: len(Naive(rules, pool, (ask,)).answers(lores[pool][-1])) == 1 for pool in pools}
    within = {pool: [other for other in pools if set(other) < set(pool)] for pool in pools}
    least = [pool for pool in pools if knows[pool] and not any(knows[other] for other in within[pool])]
    most = [pool for pool in pools if not knows[pool] and all(knows[other] for other in pools if pool in within[other])]
    return (tuple((pool, tuple(tuple(sorted(lore)) for lore in lores[pool])) for pool in sorted(least)),
            tuple(sorted(most)))


class Beside:
    """What comes for a pool and its mates: (stand, memories of the pool, memories of the mates)."""

    def __init__(self, rules, pool, others, mates):
        self.one, self.other = Naive(rules, pool, ()), Naive(others, mates, ())
        self.first = (self.one.first[0], self.one.first[1], self.other.first[1])

    def steps(self, case):
        """(what is shown the pool, what the mates, what comes); None for what is unseen."""
        stand, memories, others = case
        found = []
        for one, other in zip(self.one.steps((stand, memories, ())), self.other.steps((stand, others, ()))):
            found.append((None if one[1] == self.one.unseen else one[1],
                          None if other[1] == self.other.unseen else other[1], (one[2][0], one[2][1], other[2][1])))
        return found

    def next_pairs(self, pair):
        """(how many moves, pair behind), None for a pair that the mates can tell apart."""
        for one, other in (pair, pair[::-1]):
            for shown, seen, behind in self.steps(one):
                if shown is None:
                    yield 1, in_order(behind, other) if seen is None else None
                else:
                    for same, beside, after in self.steps(other):
                        if same == shown:
                            yield 2, in_order(behind, after) if seen == beside else None


def finer(rules, pool, others, mates):
    """("parts", how many moves) or ("finer", table)."""
    beside = Beside(rules, pool, others, mates)
    seen = set()
    ahead = [(0, 0, (beside.first, beside.first))]
    while ahead:
        length, is_parted, pair = heapq.heappop(ahead)
        if is_parted:
            return ("parts", length)
        if pair not in seen:
            seen.add(pair)
            for more, behind in beside.next_pairs(pair):
                heapq.heappush(ahead, (length + more, int(behind is None), behind or ()))
    return ("finer", tuple(sorted(seen)))
