"""Notes: what is kept of a run so that an ask can be answered behind it."""

from givenout.forms import NIGHT, is_from

PARTED = ("not", "and", "or")
NOTED = ("done", "today", "last", "often", "who", "times")


def noted_leaves(ask):
    """The leaves (or the ask itself) that have an entry in the notes, from left to right."""
    if ask[0] in PARTED:
        return [leaf for part in ask[1:] for leaf in noted_leaves(part)]
    return [ask] if ask[0] in NOTED else []


def first_entry(leaf):
    """The entry of the leaf ahead of all moves."""
    if leaf[0] in ("done", "today"):
        return False
    return "" if leaf[0] in ("last", "who") else 0


def entry_behind(leaf, entry, move):
    """The entry of the leaf behind the move."""
    word = leaf[0]
    if move == NIGHT:
        return False if word == "today" else entry
    _, deed, who, it = move
    if deed != leaf[1]:
        return entry
    if word in ("last", "who"):
        return who
    if word in ("often", "times"):
        return min(entry + 1, leaf[2])
    return entry or (leaf[2] in (None, who) and leaf[3] in (None, it))


def is_entry(house, leaf, value):
    """Whether the value is an entry of the leaf by its form."""
    if leaf[0] in ("done", "today"):
        return isinstance(value, bool)
    if leaf[0] in ("last", "who"):
        return value == "" or value in house.people
    return is_from(value, 0, leaf[2] + 1)


def first_notes(ask):
    """The notes of the ask ahead of all moves."""
    return tuple([first_entry(leaf) for leaf in noted_leaves(ask)])


def notes_behind(ask, notes, move):
    """The notes of the ask behind the move."""
    return tuple([entry_behind(leaf, entry, move) for leaf, entry in zip(noted_leaves(ask), notes)])


def are_notes(house, ask, value):
    """Whether the values are notes of the ask by their form."""
    leaves = noted_leaves(ask)
    if not isinstance(value, tuple) or len(value) != len(leaves):
        return False
    return all([is_entry(house, leaf, entry) for leaf, entry in zip(leaves, value)])


def worth_of(house, worths, cell):
    """The worth of the cell of this name."""
    return worths[[name for name, _, _ in house.cells].index(cell)]


def leaf_answer(house, ask, worths, notes):
    """The answer to what is not parted."""
    word = ask[0]
    if word == "worth":
        return worth_of(house, worths, ask[1])
    if word == "now":
        return worth_of(house, worths, ask[1]) == ask[2]
    if word == "last":
        return notes[0] == ask[2]
    if word == "often":
        return notes[0] >= ask[2]
    return notes[0]


def answer_by(house, ask, worths, notes):
    """The answer to the ask by what the worths are and what was noted."""
    word = ask[0]
    if word not in PARTED:
        return leaf_answer(house, ask, worths, notes)
    here = len(noted_leaves(ask[1]))
    first = answer_by(house, ask[1], worths, notes[:here])
    if word == "not":
        return not first
    other = answer_by(house, ask[2], worths, notes[here:])
    if word == "and":
        return first and other
    return first or other
