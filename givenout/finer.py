"""Finer: whether what a pool is given tells all that its mates are given by other rules."""

from givenout.checks import is_run
from givenout.doubles import PARTED, DoublePairs, Doubles
from givenout.errors import BadOthers, BadPool, TooMany
from givenout.forms import is_ascending, is_memory, is_stand, is_tuple_of
from givenout.giving import is_pool, view_of
from givenout.lores import LIMIT
from givenout.pairs import in_order, pair_steps
from givenout.rules import Rules
from givenout.walks import Walks


def need_both(rules, pool, others, mates):
    """Refuses what is no pool, then what are no rules of this house, then what is no pool of these."""
    if not is_pool(rules, pool):
        raise BadPool(pool)
    if not isinstance(others, Rules) or others.house != rules.house:
        raise BadOthers(others)
    if not is_pool(others, mates):
        raise BadPool(mates)


def doubles_of(rules, pool, others, mates):
    """What comes for the pool by the rules and for the mates by the others."""
    return Doubles(Walks(rules, pool, ()), Walks(others, mates, ()))


def finer(rules, pool, others, mates):
    """Whether what the pool is given tells all that the mates are given: what shows it, or else two runs."""
    need_both(rules, pool, others, mates)
    pairs = DoublePairs(doubles_of(rules, pool, others, mates))
    while not pairs.is_done():
        pairs.take_nearer()
        if PARTED in pairs.sources:
            return ("parts",) + pairs.runs_to(PARTED)
        if len(pairs.sources) > LIMIT:
            raise TooMany(LIMIT)
        pairs.look_ahead()
    return ("finer", pairs.told())


def is_double(house, pool, mates, value):
    """Whether the value is a stand with memories of the pool and of the mates, by their forms."""
    if not is_tuple_of(value, 3) or not is_stand(house, value[0]):
        return False
    if not is_tuple_of(value[1], len(pool)) or not is_tuple_of(value[2], len(mates)):
        return False
    return all([is_memory(house, memory) for memory in value[1] + value[2]])


def is_pair(house, pool, mates, value):
    """Whether the value is two of these, in order."""
    if not is_tuple_of(value, 2) or not all([is_double(house, pool, mates, one) for one in value]):
        return False
    return value[0] <= value[1]


def is_closed(doubles, pairs):
    """Whether with each of the pairs, which are keys there, all that comes of it is there, and the mates tell none."""
    for pair in pairs:
        for moves, one, other in pair_steps(doubles, pair):
            if doubles.are_parted(pair, moves) or in_order(one, other) not in pairs:
                return False
    return True


def shows_table(rules, pool, others, mates, table):
    """Whether the table shows that the pool is given all that the mates are given."""
    if not isinstance(table, tuple) or not all([is_pair(rules.house, pool, mates, pair) for pair in table]):
        return False
    if not is_ascending(table):
        return False
    doubles = doubles_of(rules, pool, others, mates)
    pairs = {in_order(doubles.number_at(one), doubles.number_at(other)): True for one, other in table}
    return (0, 0) in pairs and is_closed(doubles, pairs)


def shows_parts(rules, pool, others, mates, run, other):
    """Whether these are two runs with one view of the pool and unlike views of the mates."""
    if not is_run(rules.house, run) or not is_run(rules.house, other):
        return False
    if view_of(rules, pool, run) != view_of(rules, pool, other):
        return False
    return view_of(others, mates, run) != view_of(others, mates, other)


def shows_finer(rules, pool, others, mates, value):
    """Whether the value shows that the pool is given all that the mates are given, or that it is not."""
    need_both(rules, pool, others, mates)
    if is_tuple_of(value, 3) and value[0] == "parts":
        return shows_parts(rules, pool, others, mates, value[1], value[2])
    if is_tuple_of(value, 2) and value[0] == "finer":
        return shows_table(rules, pool, others, mates, value[1])
    return False
