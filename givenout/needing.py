"""Needing: whether a pool knows an answer at all times."""

from givenout.asks import answer
from givenout.checks import is_run, need_ask
from givenout.errors import TooMany
from givenout.forms import is_ascending, is_tuple_of
from givenout.giving import view_of
from givenout.lores import LIMIT
from givenout.pairs import Pairs, in_order, pair_steps
from givenout.proofs import is_case_of
from givenout.walks import Walks


def are_unlike(walks, pair):
    """Whether the two cases of the pair give unlike answers."""
    one, other = pair
    return walks.answers_of(one) != walks.answers_of(other)


def looked_for(rules, pool, ask):
    """As needed, of a pool and an ask that surely are such."""
    walks = Walks(rules, pool, (ask,))
    pairs = Pairs(walks)
    while not pairs.is_done():
        pairs.take_nearer()
        for pair in pairs.fresh:
            if are_unlike(walks, pair):
                return ("open",) + pairs.runs_to(pair)
        if len(pairs.sources) > LIMIT:
            raise TooMany(LIMIT)
        pairs.look_ahead()
    return ("sure", pairs.told())


def needed(rules, pool, ask):
    """Whether the pool knows the answer at all times: what shows it, or else two runs that it cannot tell apart."""
    need_ask(rules, pool, ask)
    return looked_for(rules, pool, ask)


def is_pair(walks, value):
    """Whether the value is two cases by their form, in order."""
    return is_tuple_of(value, 2) and all([is_case_of(walks, case) for case in value]) and value[0] <= value[1]


def shows_sure(walks, table):
    """Whether the table shows that the answer is known at all times."""
    if not isinstance(table, tuple) or not all([is_pair(walks, pair) for pair in table]) or not is_ascending(table):
        return False
    pairs = {in_order(walks.number_of(one), walks.number_of(other)): True for one, other in table}
    if (0, 0) not in pairs:
        return False
    for pair in pairs:
        if are_unlike(walks, pair):
            return False
        if not all([in_order(one, other) in pairs for _, one, other in pair_steps(walks, pair)]):
            return False
    return True


def shows_open(rules, pool, ask, run, other):
    """Whether these are two runs with one view and unlike answers."""
    house = rules.house
    if not is_run(house, run) or not is_run(house, other) or view_of(rules, pool, run) != view_of(rules, pool, other):
        return False
    return answer(house, run, ask) != answer(house, other, ask)


def shows_looked_for(rules, pool, ask, value):
    """As shows_needed, of a pool and an ask that surely are such."""
    if is_tuple_of(value, 3) and value[0] == "open":
        return shows_open(rules, pool, ask, value[1], value[2])
    if is_tuple_of(value, 2) and value[0] == "sure":
        return shows_sure(Walks(rules, pool, (ask,)), value[1])
    return False


def shows_needed(rules, pool, ask, value):
    """Whether the value shows that the answer is known at all times, or that it is not."""
    need_ask(rules, pool, ask)
    return shows_looked_for(rules, pool, ask, value)
