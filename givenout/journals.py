"""Journals: offices from what they have written."""

from givenout.changes import LENGTHS
from givenout.errors import BadText
from givenout.houses import House
from givenout.lines import Lines, is_name
from givenout.lores import WORDS
from givenout.offices import Office
from givenout.reading import ask_of, change_of, take_move
from givenout.rules import Rules


def take_house(lines):
    """The house, with the lines below."""
    lines.take_exactly(0, ("house",), 1)
    start = lines.number
    text = lines.take_block(1)
    try:
        return House(text)
    except BadText as wrong:
        raise BadText(start + wrong.number) from None


def take_rules(lines, house, depth):
    """Rules of the house, with the lines below."""
    lines.take_exactly(depth, ("rules",), 1)
    start = lines.number
    text = lines.take_block(depth + 1)
    try:
        return Rules(house, text)
    except BadText as wrong:
        raise BadText(start + wrong.number) from None


def take_secret(lines, house):
    """What stands for a secret: an ask and a word."""
    words = lines.take(1, ("secret",))
    lines.need(len(words) > 1 and words[1] in WORDS)
    ask = ask_of(house, words[2:])
    lines.need(ask is not None)
    return (ask, words[1])


def take_way(lines):
    """What stands for a way: changes by their forms."""
    lines.take_exactly(1, ("way",), 1)
    changes = []
    while lines.is_next(2, list(LENGTHS)):
        change = change_of(lines.take(2, list(LENGTHS)))
        lines.need(change is not None)
        changes.append(change)
    return tuple(changes)


def take_guard(lines, house):
    """What stands for a guard."""
    pool = tuple(lines.take(0, ("guard",))[1:])
    lines.need(pool != () and all([is_name(reader) for reader in pool]))
    secrets, ways = [], []
    while lines.is_next(1, ("secret",)):
        secrets.append(take_secret(lines, house))
    while lines.is_next(1, ("way",)):
        ways.append(take_way(lines))
    return (pool, tuple(secrets), tuple(ways))


def take_steps(lines, house):
    """The moves and the rules below the run."""
    lines.take_exactly(0, ("run",), 1)
    steps = []
    while lines.is_left():
        if lines.is_next(1, ("rules",)):
            steps.append(take_rules(lines, house, 1))
        else:
            steps.append(take_move(lines, 1))
    return steps


def read_journal(text):
    """An office that has this journal."""
    lines = Lines(text)
    house = take_house(lines)
    rules = take_rules(lines, house, 0)
    guards = []
    while lines.is_next(0, ("guard",)):
        guards.append(take_guard(lines, house))
    steps = take_steps(lines, house)
    office = Office(rules, guards=tuple(guards))
    for step in steps:
        if isinstance(step, Rules):
            office.change(step)
        else:
            office.do(step)
    return office
