"""Changes of rules."""

from givenout.errors import BadChanges
from givenout.forms import is_ascending, is_from
from givenout.lines import is_name
from givenout.rules import PUTS, Rules

# How many words the changes of each sort have.
LENGTHS = {"hide": 3, "blank": 4, "number": 4, "coarse": 5, "nightly": 3, "counted": 4, "daily": 2, "nights": 2}

# The ranks of lines, in the sequence in which they stand: of a reader's ahead of all kinds their places here, of those
# below a kind the numbers below; each of the fields of a kind has one, from FIELDS on, and there are at most three.
HEADS = ("reader", "is", "daily", "nights")
ONLYS = 1
FIELDS = 2
HELD = 5


def is_change(value):
    """Whether the value is a change by its form."""
    if not isinstance(value, tuple) or value == () or not isinstance(value[0], str):
        return False
    if len(value) != LENGTHS.get(value[0], 0):
        return False
    names = value[1:]
    if value[0] == "coarse" or value[0] == "counted":
        low, limit = (2, 4) if value[0] == "coarse" else (1, 4)
        if not is_from(value[-1], low, limit):
            return False
        names = value[1:-1]
    return all([isinstance(name, str) and is_name(name) for name in names])


def place_of(name, named):
    """The place of a name among tuples that begin with names."""
    return [row[0] for row in named].index(name)


def rank_of(fields, words):
    """The rank of a line below a kind with these fields, by its words."""
    if words[0] == "kind":
        return 0
    if words[0] == "only":
        return ONLYS
    return FIELDS + place_of(words[1], fields) if words[0] in PUTS else HELD


def rows_of(rules):
    """For each line (place of its reader, that of its kind or -1, rank, number, line): they stand in this sequence."""
    kinds = rules.house.kinds
    rows = []
    reader, kind = -1, -1
    for number, line in enumerate(rules.text.split("\n")):
        words = line.split()
        if words[0] == "reader":
            reader, kind = reader + 1, -1
        if words[0] == "kind":
            kind = place_of(words[1], kinds)
        rank = HEADS.index(words[0]) if kind < 0 else rank_of(kinds[kind][1], words)
        rows.append((reader, kind, rank, number, line))
    return rows


def span_of(rules, change):
    """The lines that the change takes away: ((place of the reader, that of the kind or -1), first rank, last rank)."""
    word, reader = change[0], rules.readers.index(change[1])
    if word in HEADS:
        return ((reader, -1), HEADS.index(word), HEADS.index(word))
    kind = place_of(change[2], rules.house.kinds)
    block = (reader, kind)
    if word == "hide":
        return (block, 0, HELD)
    if word in PUTS:
        rank = FIELDS + place_of(change[3], rules.house.kinds[kind][1])
        return (block, rank, rank)
    return (block, FIELDS if word == "counted" else HELD, HELD)


def line_of(change):
    """The line that the change puts there."""
    word = change[0]
    if word == "daily":
        return "  daily"
    return "    " + " ".join([word] + [str(part) for part in change[3:]])


def rows_behind(rules, rows, change):
    """The rows behind a change of what is there."""
    block, first, last = span_of(rules, change)
    rows = [row for row in rows if row[:2] != block or not first <= row[2] <= last]
    if change[0] in ("hide", "nights"):
        return rows
    # What is put there stands where the last one stood of what can go.
    return rows + [block + (last, 0, line_of(change))]


def text_behind(rules, changes):
    """The text of the rules behind changes that can be made."""
    rows = rows_of(rules)
    for change in changes:
        rows = rows_behind(rules, rows, change)
    return "\n".join([line for _, _, _, _, line in sorted(rows)])


def is_of_field(house, told, change):
    """Whether a change of a field of a kind, of which the reader is told so, is of a field that can be put so."""
    word, kind, field = change[0], change[2], change[3]
    if told.kinds[kind].held == "counted":
        return False
    sizes = [size for name, fields in house.kinds if name == kind for one, size in fields if one == field]
    if sizes == []:
        return False
    return word == "blank" or (sizes[0] is None) == (word == "number")


def can_be_made(rules, change):
    """Whether this is a change that makes rules, and other ones than these."""
    if not is_change(change) or change[1] not in rules.readers:
        return False
    told = rules.by_reader[change[1]]
    if change[0] not in HEADS:
        if change[2] not in told.kinds:
            return False
        if change[0] in PUTS and not is_of_field(rules.house, told, change):
            return False
        if change[0] == "nightly" and told.kinds[change[2]].held == "counted":
            return False
    return text_behind(rules, (change,)) != rules.text


def are_apart(one, other):
    """Whether the two changes can stand beside each other."""
    if one[1:3] != other[1:3]:
        return True
    if one[0] in ("hide", "counted") or other[0] in ("hide", "counted"):
        return False
    return one[0] not in PUTS or other[0] not in PUTS or one[3] != other[3]


def are_let(rules, value):
    """Whether the value is an ascending tuple of changes that the rules let."""
    if not isinstance(value, tuple) or not all([can_be_made(rules, change) for change in value]):
        return False
    pairs = [(one, other) for place, other in enumerate(value) for one in value[:place]]
    return is_ascending(value) and all([are_apart(one, other) for one, other in pairs])


def with_changes(rules, changes):
    """The rules with these changes."""
    if not are_let(rules, changes):
        raise BadChanges(changes)
    return Rules(rules.house, text_behind(rules, changes))
