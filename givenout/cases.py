"""Cases: all of a run that counts for what comes, for a pool and some asks."""

from givenout.asks import is_ask
from givenout.errors import BadAsks, BadCase, BadPool
from givenout.forms import is_memory, is_stand, is_tuple_of
from givenout.giving import first_memory, is_pool, shown_to
from givenout.notes import are_notes, first_notes, notes_behind
from givenout.stands import first_stand, possible_moves, stand_behind

MOST_ASKS = 3


def are_asks(house, value):
    """Whether the value is a tuple of at most three asks."""
    return isinstance(value, tuple) and len(value) <= MOST_ASKS and all([is_ask(house, ask) for ask in value])


def is_case(rules, pool, asks, value):
    """Whether the value is a case by its form."""
    if not is_tuple_of(value, 3):
        return False
    stand, memories, notes = value
    if not is_stand(rules.house, stand) or not is_tuple_of(memories, len(pool)) or not is_tuple_of(notes, len(asks)):
        return False
    if not all([is_memory(rules.house, memory) for memory in memories]):
        return False
    return all([are_notes(rules.house, ask, entries) for ask, entries in zip(asks, notes)])


def start_case(house, pool, asks):
    """As first_case, of what surely has the forms."""
    memories = tuple([first_memory(house) for _ in pool])
    return (first_stand(house), memories, tuple([first_notes(ask) for ask in asks]))


def first_case(rules, pool, asks):
    """The case ahead of all moves."""
    if not is_pool(rules, pool):
        raise BadPool(pool)
    if not are_asks(rules.house, asks):
        raise BadAsks(asks)
    return start_case(rules.house, pool, asks)


def case_behind(rules, pool, asks, case, move):
    """What a move that is possible there shows the pool, and the case behind it."""
    stand, memories, notes = case
    stand, rows = stand_behind(rules.house, stand, move)
    shown, memories = shown_to(rules, pool, memories, move, rows)
    notes = tuple([notes_behind(ask, entries, move) for ask, entries in zip(asks, notes)])
    return (shown, (stand, memories, notes))


def steps_from(rules, pool, asks, case):
    """As cases_behind, of what surely has the forms."""
    steps = []
    for move in possible_moves(rules.house, case[0]):
        shown, behind = case_behind(rules, pool, asks, case, move)
        steps.append((move, shown, behind))
    return tuple(steps)


def cases_behind(rules, pool, asks, case):
    """For each possible move, ascending: the move, what it shows the pool, and the case behind it."""
    if not is_pool(rules, pool):
        raise BadPool(pool)
    if not are_asks(rules.house, asks):
        raise BadAsks(asks)
    if not is_case(rules, pool, asks, case):
        raise BadCase(case)
    return steps_from(rules, pool, asks, case)
