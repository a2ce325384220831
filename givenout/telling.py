"""Telling: which readers can have told a thing that got out."""

from givenout.asks import answer, is_ask
from givenout.errors import BadAsk
from givenout.forms import is_ascending, is_tuple_of
from givenout.giving import is_pool, view_of
from givenout.knowing import lores_of
from givenout.lores import answers_in
from givenout.needing import shows_open
from givenout.proofs import hold_all, numbers_of
from givenout.stands import led
from givenout.views import runs_to_answers
from givenout.walks import Walks


def need_ask_and_run(rules, ask, run):
    """Refuses what is no ask, then what is no run."""
    if not is_ask(rules.house, ask):
        raise BadAsk(ask)
    led(rules.house, run)


def pools_of(rules):
    """All pools, ascending."""
    pools = [()]
    for reader in rules.readers:
        pools = pools + [pool + (reader,) for pool in pools]
    return sorted([pool for pool in pools if pool != ()])


def is_inside(pool, other):
    """Whether all readers of the pool are of the other one, too."""
    return all([reader in other for reader in pool])


def least_of(pools):
    """Those of the pools within which there is no other one."""
    return [pool for pool in pools if [other for other in pools if is_inside(other, pool)] == [pool]]


def greatest_of(pools):
    """Those of the pools around which there is no other one."""
    return [pool for pool in pools if [other for other in pools if is_inside(pool, other)] == [pool]]


def looks_along(rules, pool, ask, run):
    """(whether the pool knows the answer behind the run, its lores or another run with its view and another answer)."""
    walks = Walks(rules, pool, (ask,))
    parts = walks.parts_of(view_of(rules, pool, run))
    lores = lores_of(walks, parts)
    if len(answers_in(walks, 0, lores[-1])) == 1:
        return (True, tuple([walks.told(numbers) for numbers in lores]))
    here = answer(rules.house, run, ask)
    return (False, [other for given, other in runs_to_answers(walks, parts) if given != here][0])


def told(rules, ask, run):
    """The least pools that know the answer behind the run, and the greatest ones that do not."""
    need_ask_and_run(rules, ask, run)
    looks = {pool: looks_along(rules, pool, ask, run) for pool in pools_of(rules)}
    knowing = least_of([pool for pool in looks if looks[pool][0]])
    unsure = greatest_of([pool for pool in looks if not looks[pool][0]])
    return (tuple([(pool, looks[pool][1]) for pool in knowing]), tuple([(pool, looks[pool][1]) for pool in unsure]))


def knows(rules, pool, ask, run, lores):
    """Whether the lores show that the pool knows the answer behind the run."""
    walks = Walks(rules, pool, (ask,))
    if not hold_all(walks, walks.parts_of(view_of(rules, pool, run)), lores):
        return False
    return len(answers_in(walks, 0, numbers_of(walks, lores)[-1])) == 1


def are_rows(rules, value):
    """Whether the value is a tuple of (pool, evidence), ascending by pools."""
    if not isinstance(value, tuple) or not all([is_tuple_of(row, 2) and is_pool(rules, row[0]) for row in value]):
        return False
    return is_ascending([pool for pool, _ in value])


def part_all(rules, least, greatest):
    """Whether none of either are within one another, and each pool is around one of the least or within a greatest."""
    if least_of(least) != least or greatest_of(greatest) != greatest:
        return False
    for pool in pools_of(rules):
        around = [other for other in least if is_inside(other, pool)]
        if around == [] and [other for other in greatest if is_inside(pool, other)] == []:
            return False
    return True


def shows_told(rules, ask, run, value):
    """Whether the value shows which pools know the answer behind the run, and which do not."""
    need_ask_and_run(rules, ask, run)
    if not is_tuple_of(value, 2) or not all([are_rows(rules, rows) for rows in value]):
        return False
    knowing, unsure = value
    # A greater pool knows no less, so these tell of all pools.
    if not part_all(rules, [pool for pool, _ in knowing], [pool for pool, _ in unsure]):
        return False
    return (all([knows(rules, pool, ask, run, lores) for pool, lores in knowing])
            and all([shows_open(rules, pool, ask, run, other) for pool, other in unsure]))
