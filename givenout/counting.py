"""Counting: how many runs lie behind a view, and which parts of a view are enough to know."""

from givenout.checks import need_run, need_view
from givenout.errors import BadCount, TooMany, Unsure
from givenout.forms import is_from
from givenout.giving import view_of
from givenout.lores import LIMIT, Lores
from givenout.walks import HIDDEN, UNSEEN, Walks

MOST_MOVES = 30


def counts_behind(walks, parts, counts, left):
    """How many runs lead to each (number of a case, how many parts were shown), by the same of runs with one move less.

    Such as lack more parts than there are moves left are not looked at any more.
    """
    behind = {}
    for (number, done), runs in counts.items():
        for _, part, case in walks.steps_of(number):
            place = (case, done if part == UNSEEN else done + 1)
            is_led = part == UNSEEN or (done < len(parts) and part == parts[done])
            if is_led and len(parts) - place[1] <= left:
                behind[place] = behind.get(place, 0) + runs
    return behind


def many(rules, pool, ask, view, most):
    """For each answer that runs with this view and at most so many moves give, (answer, number of these runs)."""
    need_view(rules, pool, ask, view)
    if not is_from(most, 0, MOST_MOVES + 1):
        raise BadCount(most)
    walks = Walks(rules, pool, (ask,))
    parts = walks.parts_of(view)
    counts = {(0, 0): 1}
    totals = {}
    for length in range(most + 1):
        if length > 0:
            counts = counts_behind(walks, parts, counts, most - length)
        for (number, done), runs in counts.items():
            if done == len(parts):
                given = walks.answers_of(number)[0]
                totals[given] = totals.get(given, 0) + runs
    return tuple([(given, totals[given]) for given in sorted(totals)])


def parts_that_stay(lores, parts):
    """The numbers of the parts that stay when each without which there is one answer still is hidden, in sequence."""
    here = 0
    stay = []
    for place, part in enumerate(parts):
        hidden = lores.behind(here, HIDDEN)
        end = lores.led(hidden, parts[place + 1:])[-1]
        if len(lores.answers_at(end)) == 1:
            here = hidden
        else:
            here = lores.behind(here, part)
            stay.append(place)
    return tuple(stay)


def enough(rules, pool, ask, run):
    """The numbers of the parts of the run's view that are enough to know the answer."""
    need_run(rules, pool, ask, run)
    walks = Walks(rules, pool, (ask,))
    parts = walks.parts_of(view_of(rules, pool, run))
    # Several answers are told however many cases there are, so nothing is cut off.
    lores = Lores(walks, (), None)
    numbers = lores.led(0, parts)
    given = lores.answers_at(numbers[-1])
    if len(given) > 1:
        raise Unsure(given)
    if max([len(lores.rows[number]) for number in numbers]) > LIMIT:
        raise TooMany(LIMIT)
    return parts_that_stay(lores, parts)
