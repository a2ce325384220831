"""Stands of a house, and the moves that lead from one to the next."""

from givenout.deedlines import worked_out
from givenout.errors import BadRun, BadStand, NoMove
from givenout.forms import NIGHT, is_move, is_stand


def first_stand(house):
    """The stand that each run begins with."""
    return (tuple([first for _, _, first in house.cells]), 0)


def holds(deed, worths):
    """Whether all tests of the deed hold."""
    return all([(worths[place] == worth) == same for place, same, worth in deed.tests])


def is_possible(house, stand, move):
    """Whether a move by its form is possible at the stand."""
    worths, today = stand
    return move == NIGHT or (today < house.day and holds(house.scripts[move[1]], worths))


def possible_moves(house, stand):
    """As moves, of what surely is a stand."""
    worths, today = stand
    if today == house.day:
        return (NIGHT,)
    ready = [name for name, deed in house.scripts.items() if holds(deed, worths)]
    # Nights stand behind all deeds, as "night" is behind "do".
    return tuple([move for move in house.doings if move[1] in ready]) + (NIGHT,)


def moves(house, stand):
    """All moves that are possible at the stand, ascending."""
    if not is_stand(house, stand):
        raise BadStand(stand)
    return possible_moves(house, stand)


def changed(house, deed, worths, who, it):
    """The worths behind all changes of the deed."""
    worths = list(worths)
    for word, place, source in deed.changes:
        worth = worked_out(source, worths, who, it)
        if word == "add":
            worth = (worths[place] + worth) % house.cells[place][1]
        worths[place] = worth
    return tuple(worths)


def stand_behind(house, stand, move):
    """As after, of what surely is possible."""
    worths, today = stand
    if move == NIGHT:
        return ((worths, 0), ())
    _, name, who, it = move
    deed = house.scripts[name]
    worths = changed(house, deed, worths, who, it)
    rows = [(kind, tuple([worked_out(source, worths, who, it) for source in sources])) for kind, sources in deed.rows]
    return ((worths, today + 1), tuple(rows))


def after(house, stand, move):
    """The stand behind the move, and the rows that the move writes."""
    if not is_stand(house, stand):
        raise BadStand(stand)
    if not is_move(house, move) or not is_possible(house, stand, move):
        raise NoMove(move)
    return stand_behind(house, stand, move)


def led(house, run):
    """The stand behind the run, and for each of its moves the rows that it writes."""
    if not isinstance(run, tuple):
        raise BadRun(0)
    stand = first_stand(house)
    book = []
    for number, move in enumerate(run, start=1):
        if not is_move(house, move) or not is_possible(house, stand, move):
            raise BadRun(number)
        stand, rows = stand_behind(house, stand, move)
        book.append(rows)
    return (stand, tuple(book))
