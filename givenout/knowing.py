"""Knowing: what a pool can know by what it was shown."""

from givenout.asks import answer
from givenout.cases import are_asks
from givenout.checks import is_run, need_run, need_view
from givenout.errors import BadAsks, BadPool, BadView
from givenout.forms import is_alike, is_tuple_of
from givenout.giving import is_pool, shown_along, view_of
from givenout.lores import LIMIT, Lores, answers_in
from givenout.proofs import hold_all, numbers_of
from givenout.views import is_view, runs_to_answers
from givenout.walks import Walks


def lores_of(walks, parts):
    """The numbers of the cases ahead of the view and behind each of its parts."""
    lores = Lores(walks, (), LIMIT)
    numbers = lores.led(0, parts)
    lores.need_few()
    return [lores.rows[number] for number in numbers]


def lore(rules, pool, asks, view):
    """The ascending tuple of the cases behind all runs with this view."""
    if not is_pool(rules, pool):
        raise BadPool(pool)
    if not are_asks(rules.house, asks):
        raise BadAsks(asks)
    if not is_view(rules, pool, view):
        raise BadView(view)
    walks = Walks(rules, pool, asks)
    return walks.told(lores_of(walks, walks.parts_of(view))[-1])


def answers(rules, pool, ask, view):
    """The answers that runs with this view give, each with such a run; the lores ahead of it and behind its parts."""
    need_view(rules, pool, ask, view)
    walks = Walks(rules, pool, (ask,))
    parts = walks.parts_of(view)
    lores = tuple([walks.told(numbers) for numbers in lores_of(walks, parts)])
    return (runs_to_answers(walks, parts), lores)


def is_answer_row(rules, pool, ask, view, row):
    """Whether the row is an answer and a run with this view that gives it."""
    if not is_tuple_of(row, 2) or not is_run(rules.house, row[1]):
        return False
    return view_of(rules, pool, row[1]) == view and is_alike(row[0], answer(rules.house, row[1], ask))


def shows_answers(rules, pool, ask, view, value):
    """Whether the value shows the answers of the view."""
    need_view(rules, pool, ask, view)
    if not is_tuple_of(value, 2):
        return False
    rows, lores = value
    if not isinstance(rows, tuple) or not all([is_answer_row(rules, pool, ask, view, row) for row in rows]):
        return False
    walks = Walks(rules, pool, (ask,))
    if not hold_all(walks, walks.parts_of(view), lores):
        return False
    return answers_in(walks, 0, numbers_of(walks, lores)[-1]) == [row[0] for row in rows]


def course(rules, pool, ask, run):
    """The answers that are possible by the view of the run up to each moment, ahead of it and behind each move."""
    need_run(rules, pool, ask, run)
    walks = Walks(rules, pool, (ask,))
    lores = Lores(walks, (), LIMIT)
    numbers = lores.led(0, walks.parts_of(shown_along(rules, pool, run)))
    lores.need_few()
    return tuple([lores.answers_at(number) for number in numbers])
