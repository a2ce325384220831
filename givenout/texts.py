"""Texts: runs, views, asks and changes in writing."""

from givenout.asks import is_ask
from givenout.changes import is_change
from givenout.errors import BadAsk, BadChange, BadPool, BadView
from givenout.forms import is_part
from givenout.giving import is_pool
from givenout.notes import PARTED
from givenout.stands import led


def show_move(move):
    """The line of what is a move by its form."""
    return " ".join([str(word) for word in move])


def show_run(house, run):
    """The text of a run: its moves, one a line."""
    led(house, run)
    return "\n".join([show_move(move) for move in run])


def show_value(value):
    """The word of what stands in a field of a row that is given."""
    return "-" if value == -1 else str(value)


def show_item(item):
    """The line of an item by its form."""
    if len(item) == 2:
        return " ".join(["row", item[0]] + [show_value(value) for value in item[1]])
    return " ".join([str(word) for word in item])


def part_lines(pool, part):
    """The lines of a part of a view."""
    lines = ["part"]
    for reader, items in zip(pool, part):
        if items != ():
            lines.append("  reader " + reader)
            lines.extend(["    " + show_item(item) for item in items])
    return lines


def show_view(rules, pool, view):
    """The text of what is a view of the pool by its form."""
    if not is_pool(rules, pool):
        raise BadPool(pool)
    if not isinstance(view, tuple) or not all([is_part(rules.house, pool, part) for part in view]):
        raise BadView(view)
    return "\n".join([line for part in view for line in part_lines(pool, part)])


def ask_words(ask):
    """The words of what is an ask, in sequence."""
    if ask[0] in PARTED:
        return [ask[0]] + [word for part in ask[1:] for word in ask_words(part)]
    return ["-" if word is None else str(word) for word in ask]


def write_ask(ask):
    """As show_ask, of what surely is an ask."""
    return " ".join(ask_words(ask))


def show_ask(house, ask):
    """The text of an ask of the house."""
    if not is_ask(house, ask):
        raise BadAsk(ask)
    return write_ask(ask)


def write_change(change):
    """As show_change, of what surely is a change by its form."""
    return " ".join([str(word) for word in change])


def show_change(change):
    """The text of what is a change by its form."""
    if not is_change(change):
        raise BadChange(change)
    return write_change(change)
