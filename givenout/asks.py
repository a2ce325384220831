"""Asks: what can be asked of a run, and the answers."""

from givenout.errors import BadAsk
from givenout.forms import is_from, is_tuple_of, pick_of_deed, size_of_cell
from givenout.notes import PARTED, answer_by, first_notes, notes_behind
from givenout.stands import led

MOST_DEEP = 4
MOST_LEAVES = 4


def is_worded(value):
    """Whether the value is a tuple that begins with a string."""
    return isinstance(value, tuple) and len(value) > 0 and isinstance(value[0], str)


def is_done(house, value):
    """Whether the words behind done or today are a deed, perhaps a person, perhaps what was picked."""
    if not is_tuple_of(value, 4):
        return False
    _, deed, who, it = value
    pick = pick_of_deed(house, deed)
    return pick > 0 and (who is None or who in house.people) and (it is None or is_from(it, 0, pick))


def is_leaf(house, value):
    """Whether what begins with a string is an ask of the first five rows."""
    word = value[0]
    if word in ("done", "today"):
        return is_done(house, value)
    if not is_tuple_of(value, 3):
        return False
    if word == "now":
        return is_from(value[2], 0, size_of_cell(house, value[1]))
    is_known = pick_of_deed(house, value[1]) > 0
    if word == "last":
        return is_known and value[2] in house.people
    return word == "often" and is_known and is_from(value[2], 2, 4)


def leaves_within(house, value, depth):
    """How many leaves the formula of at most this depth has, 0 if the value is none."""
    if depth == 0 or not is_worded(value):
        return 0
    word = value[0]
    if word not in PARTED:
        return 1 if is_leaf(house, value) else 0
    if len(value) != (2 if word == "not" else 3):
        return 0
    leaves = [leaves_within(house, part, depth - 1) for part in value[1:]]
    return 0 if 0 in leaves else sum(leaves)


def is_formula(house, value):
    """Whether the value is an ask of the house that is answered by True or False."""
    return 1 <= leaves_within(house, value, MOST_DEEP) <= MOST_LEAVES


def is_ask(house, value):
    """Whether the value is an ask of the house."""
    if not is_worded(value):
        return False
    word = value[0]
    if word == "worth":
        return len(value) == 2 and size_of_cell(house, value[1]) > 0
    if word == "who":
        return len(value) == 2 and pick_of_deed(house, value[1]) > 0
    if word == "times":
        return len(value) == 3 and pick_of_deed(house, value[1]) > 0 and is_from(value[2], 1, 4)
    return is_formula(house, value)


def answer(house, run, ask):
    """The answer to the ask behind the run."""
    stand, _ = led(house, run)
    if not is_ask(house, ask):
        raise BadAsk(ask)
    notes = first_notes(ask)
    for move in run:
        notes = notes_behind(ask, notes, move)
    return answer_by(house, ask, stand[0], notes)
