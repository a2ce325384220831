"""Ways: whether secrets can be kept for ever by ways that change with what was shown."""

from givenout.changes import are_let, with_changes
from givenout.errors import BadWays, TooMany
from givenout.forms import is_from, is_part, is_tuple_of
from givenout.keeping import need_secrets, walks_of, words_of
from givenout.lores import LIMIT, answers_in, first_out, is_out
from givenout.proofs import are_cases
from givenout.threads import Threads, threads_behind
from givenout.trees import Trees
from givenout.walks import walks_beside

MOST_WAYS = 4


def is_way(rules, pool, value):
    """Whether the value is a way of the pool."""
    return are_let(rules, value) and all([change[1] in pool for change in value])


def are_ways(rules, pool, value):
    """Whether the value is a tuple of none to four different ways of the pool."""
    if not isinstance(value, tuple) or len(value) > MOST_WAYS or not all([is_way(rules, pool, way) for way in value]):
        return False
    return not any([way in value[:place] for place, way in enumerate(value)])


def need_ways(rules, pool, secrets, ways):
    """Refuses what is no pool, then what are no secrets, then what are no ways."""
    need_secrets(rules, pool, secrets)
    if not are_ways(rules, pool, ways):
        raise BadWays(ways)


def silence_of(rules, pool):
    """The changes by which readers are given no kind."""
    hidden = [("hide", reader, kind) for reader in pool for kind in rules.by_reader[reader].kinds]
    return tuple(sorted(hidden))


def rules_by(rules, pool, ways):
    """The rules by each of the ways, silence last."""
    return [with_changes(rules, changes) for changes in ways + (silence_of(rules, pool),)]


def walks_by(rules, pool, secrets, ways):
    """The walks by each of the ways, silence last, for the formulas of the secrets."""
    walks = walks_of(rules, pool, secrets)
    return [walks_beside(walks, behind) for behind in rules_by(rules, pool, ways)]


def plan_of(threads, trees):
    """The plan of the first thread, which is safe."""
    ways = {0: trees.way_of(0)}
    ahead = [0]
    while ahead != []:
        number = ahead.pop()
        for behind in threads.nexts[number][ways[number]].values():
            if behind not in ways:
                ways[behind] = trees.way_of(behind)
                ahead.append(behind)
    walks = threads.walks[0]
    return tuple(sorted([(walks.told(threads.rows[number]), way) for number, way in ways.items()]))


def held(rules, pool, secrets, ways):
    """Whether the secrets can be kept by the ways: a plan that does it, or else a tree that shows that none does."""
    need_ways(rules, pool, secrets, ways)
    threads = Threads(walks_by(rules, pool, secrets, ways), words_of(secrets), (0,))
    trees = Trees(threads)
    if 0 not in trees.sizes:
        return ("held", plan_of(threads, trees))
    if trees.sizes[0] > LIMIT:
        raise TooMany(LIMIT)
    return ("lost", trees.tree())


def are_steps(by_ways, value):
    """Whether the value is an ascending tuple of (thread, number of a way), by their forms, each thread once."""
    if not isinstance(value, tuple) or not all([is_tuple_of(row, 2) for row in value]):
        return False
    if not all([are_cases(by_ways[0], thread) and is_from(way, 0, len(by_ways)) for thread, way in value]):
        return False
    return all([one[0] < other[0] for one, other in zip(value, value[1:])])


def goes_on(walks, words, row, rows):
    """Whether by a way no secret is out in the lore of a thread, and all threads that come behind it are keys there."""
    lore = walks.spread(row, None)
    if first_out(walks, words, lore) >= 0:
        return False
    return all([behind in rows for behind in threads_behind(walks, lore).values()])


def shows_plan(by_ways, words, plan):
    """Whether the plan keeps the secrets; by_ways: the walks by each way."""
    if not are_steps(by_ways, plan):
        return False
    first = by_ways[0]
    ways = {tuple(sorted([first.number_of(case) for case in thread])): way for thread, way in plan}
    return (0,) in ways and all([goes_on(by_ways[way], words, row, ways) for row, way in ways.items()])


def tree_ahead(walks, words, row, branch):
    """(whether the branch tells why a thread is not safe by a way, [(thread behind it, its tree)] if it tells one)."""
    lore = walks.spread(row, None)
    if is_tuple_of(branch, 2) and branch[0] == "out" and is_from(branch[1], 0, len(words)):
        return (is_out(words[branch[1]], answers_in(walks, branch[1], lore)), [])
    if not is_tuple_of(branch, 3) or branch[0] != "shows" or not is_part(walks.rules.house, walks.pool, branch[1]):
        return (False, [])
    behind = threads_behind(walks, lore)
    part = walks.part_of(branch[1])
    return (part in behind, [(behind[part], branch[2])] if part in behind else [])


def shows_tree(by_ways, words, tree):
    """Whether the tree shows that the first thread is not safe; by_ways: the walks by each way."""
    # Trees can be deeper than calls should stand within one another.
    ahead = [((0,), tree)]
    while ahead != []:
        row, branches = ahead.pop()
        if not is_tuple_of(branches, len(by_ways)):
            return False
        for walks, branch in zip(by_ways, branches):
            is_told, behind = tree_ahead(walks, words, row, branch)
            if not is_told:
                return False
            ahead.extend(behind)
    return True


def shows_held(rules, pool, secrets, ways, value):
    """Whether the value shows that the secrets can be kept by the ways, or that they cannot."""
    need_ways(rules, pool, secrets, ways)
    if not is_tuple_of(value, 2) or value[0] not in ("held", "lost"):
        return False
    by_ways, words = walks_by(rules, pool, secrets, ways), words_of(secrets)
    if value[0] == "held":
        return shows_plan(by_ways, words, value[1])
    return shows_tree(by_ways, words, value[1])
