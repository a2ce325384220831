"""Waiting: how often a deed can be done while a pool does not know an answer."""

from givenout.checks import is_run, need_ask
from givenout.errors import BadDeed, TooMany
from givenout.forms import NIGHT, is_alike, is_from, is_tuple_of, pick_of_deed
from givenout.lores import LIMIT, Lores
from givenout.members import Members
from givenout.stretches import Stretches
from givenout.walks import Walks


def need_deed(rules, pool, ask, deed):
    """Refuses what is no pool, then what is no ask, then what is no deed."""
    need_ask(rules, pool, ask)
    if pick_of_deed(rules.house, deed) == 0:
        raise BadDeed(deed)


def all_members(rules, pool, ask):
    """All members that come by any runs."""
    members = Members(Lores(Walks(rules, pool, (ask,)), (), LIMIT))
    members.take_all()
    return members


def unsure_members(members):
    """The numbers of the members whose lores leave the answer unsure, as keys."""
    lores = members.lores
    unsure = [len(lores.answers_at(number)) > 1 for number in range(len(lores.rows))]
    return {number: True for number, (_, lore) in enumerate(members.pairs) if unsure[lore]}


def told_endless(members, stretches, goals):
    """What is told where the deed can be done again and again, from each of the goals into one of them."""
    here = list(goals)[0]
    run = members.run_to(here)
    lengths = {here: len(run)}
    while True:
        moves, here = stretches.to_deed(here, goals)
        run = run + moves
        if here in lengths:
            return ("endless", run[:lengths[here]], run[lengths[here]:])
        lengths[here] = len(run)


def told_most(members, stretches, layers):
    """What is told where the deed can be done so often alone as there are layers behind the first two."""
    number = len(layers) - 2
    run = ()
    if number >= 0:
        here = list(layers[number])[0]
        run = members.run_to(here)
        for goals in layers[:number][::-1]:
            moves, here = stretches.to_deed(here, goals)
            run = run + moves
    lores, places = members.told()
    heights = [sum([1 for layer in layers if member in layer]) - 1 for _, _, member in places]
    rows = [(case, place, height) for (case, place, _), height in zip(places, heights)]
    return ("most", number, run, (lores, tuple(rows)))


def waiting(rules, pool, ask, deed):
    """How often the deed can be done while the pool does not know the answer."""
    need_deed(rules, pool, ask, deed)
    members = all_members(rules, pool, ask)
    stretches = Stretches(members, unsure_members(members), deed)
    layers = stretches.layers()
    if layers[-1] != {}:
        return told_endless(members, stretches, layers[-1])
    return told_most(members, stretches, layers)


def moments(lores, run):
    """The member at each moment of a run: ahead of it, and behind each of its moves."""
    pairs = [(0, 0)]
    for done in run:
        case, lore = pairs[-1]
        for move, part, behind in lores.walks.steps_of(case):
            if move == done:
                pairs.append((behind, lores.behind(lore, part)))
    return pairs


def is_unsure(lores, pair):
    """Whether the lore of a member leaves the answer unsure."""
    return len(lores.answers_at(pair[1])) > 1


def deeds_in(run, deed):
    """How often the deed is done by these moves."""
    return len([move for move in run if move != NIGHT and move[1] == deed])


def shows_endless(lores, deed, run, ring):
    """Whether the deed can be done again and again behind the run, by the moves of the ring."""
    house = lores.walks.rules.house
    if not is_run(house, run) or not isinstance(ring, tuple) or not is_run(house, run + ring):
        return False
    pairs = moments(lores, run + ring)[len(run):]
    return pairs[0] == pairs[-1] and deeds_in(ring, deed) > 0 and all([is_unsure(lores, pair) for pair in pairs])


def ends_waiting(lores, deed, number, run):
    """Whether the run ends in an unsure stretch in which the deed is done so often, or is () for the number -1."""
    if number == -1:
        return run == ()
    if not is_run(lores.walks.rules.house, run):
        return False
    pairs = moments(lores, run)
    start = len(pairs)
    while start > 0 and is_unsure(lores, pairs[start - 1]):
        start -= 1
    return start < len(pairs) and deeds_in(run[start:], deed) >= number


def suffice(stretches, heights, number):
    """Whether the heights, by the numbers of members, are so great as they must be, but not above the number."""
    for member, height in heights.items():
        if member not in stretches.ahead:
            if not is_from(height, -1, 0):
                return False
        elif not is_from(height, 0, number + 1):
            return False
    for member, steps in stretches.ahead.items():
        for _, behind, is_deed in steps:
            if heights[member] < heights[behind] + (1 if is_deed else 0):
                return False
    return True


def shows_heights(members, deed, number, value):
    """Whether the value is all lores and members, with heights that suffice."""
    if not is_tuple_of(value, 2) or not isinstance(value[1], tuple):
        return False
    lores, places = members.told()
    if not all([is_tuple_of(row, 3) for row in value[1]]):
        return False
    if not is_alike((value[0], tuple([row[:2] for row in value[1]])), (lores, tuple([row[:2] for row in places]))):
        return False
    heights = {member: height for (_, _, member), (_, _, height) in zip(places, value[1])}
    return suffice(Stretches(members, unsure_members(members), deed), heights, number)


def shows_waiting(rules, pool, ask, deed, value):
    """Whether the value shows how often the deed can be done while the pool does not know the answer."""
    need_deed(rules, pool, ask, deed)
    lores = Lores(Walks(rules, pool, (ask,)), (), None)
    if is_tuple_of(value, 3) and value[0] == "endless":
        return shows_endless(lores, deed, value[1], value[2])
    if not is_tuple_of(value, 4) or value[0] != "most" or not is_from(value[1], -1, LIMIT + 1):
        return False
    _, number, run, heights = value
    if not ends_waiting(lores, deed, number, run):
        return False
    try:
        return shows_heights(all_members(rules, pool, ask), deed, number, heights)
    except TooMany:
        return False
