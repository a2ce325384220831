"""Checks of what is handed in that several functions share."""

from givenout.asks import is_ask
from givenout.errors import BadAsk, BadPool, BadRun, BadView
from givenout.giving import is_pool
from givenout.stands import led
from givenout.views import is_view


def need_ask(rules, pool, ask):
    """Refuses what is no pool, then what is no ask."""
    if not is_pool(rules, pool):
        raise BadPool(pool)
    if not is_ask(rules.house, ask):
        raise BadAsk(ask)


def need_view(rules, pool, ask, view):
    """Refuses what is no pool, then what is no ask, then what is the view of no run."""
    need_ask(rules, pool, ask)
    if not is_view(rules, pool, view):
        raise BadView(view)


def need_run(rules, pool, ask, run):
    """Refuses what is no pool, then what is no ask, then what is no run."""
    need_ask(rules, pool, ask)
    led(rules.house, run)


def is_run(house, value):
    """Whether the value is a run of the house."""
    try:
        led(house, value)
    except BadRun:
        return False
    return True
