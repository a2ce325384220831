"""What readers are given by moves, and what they keep in mind for it."""

from givenout.errors import BadMemory, BadMove, BadPool, BadReader, BadRows
from givenout.forms import NIGHT, are_written_rows, is_memory, is_move
from givenout.stands import led


def first_memory(house):
    """The memory that each reader begins with."""
    return ((), (), tuple([0 for _ in house.kinds]))


def lets(told, values):
    """Whether all only lines let the row, as it was written."""
    return all([(values[place] == value) == same for place, same, value in told.onlys])


def put(how, value, numbered):
    """The value of a field as it is given; whoever gets a number is among the numbered."""
    word, n = how
    if word == "blank":
        return "-" if isinstance(value, str) else -1
    if word == "number":
        return "#" + str(numbered.index(value))
    if word == "coarse":
        return value // n
    return value


def made_ready(told, row, numbered):
    """The row as it is given; who is not numbered yet, and must be, is put into numbered."""
    kind, values = row
    for how, value in zip(told.puts, values):
        if how[0] == "number" and value not in numbered:
            numbered.append(value)
    return (kind, tuple([put(how, value, numbered) for how, value in zip(told.puts, values)]))


def with_one_more(house, counts, kind, most):
    """The counts with one more row of the kind, which is counted up to most."""
    return tuple([
        count + 1 if name == kind and count < most else count
        for (name, _), count in zip(house.kinds, counts)])


def given_by_deed(house, told, memory, move, rows):
    """The items of a deed that writes these rows, and the memory behind it."""
    items = []
    if told.person == move[2]:
        items.append(("did", move[1], move[3]))
    numbered, due, counts = list(memory[0]), list(memory[1]), memory[2]
    for row in rows:
        how = told.kinds.get(row[0])
        if how is None or not lets(how, row[1]):
            continue
        if how.held == "counted":
            counts = with_one_more(house, counts, row[0], how.most)
        elif how.held == "nightly":
            due.append(made_ready(how, row, numbered))
        else:
            items.append(made_ready(how, row, numbered))
    return (tuple(items), (tuple(numbered), tuple(sorted(due)), counts))


def counts_told(house, told, counts):
    """The items that tell the counts at night."""
    items = []
    for (kind, _), count in zip(house.kinds, counts):
        how = told.kinds.get(kind)
        if how is not None and how.held == "counted" and (count > 0 or told.nights):
            items.append(("count", kind, min(count, how.most)))
    return items


def given_by_night(house, told, memory):
    """The items of a night, and the memory behind it."""
    numbered, due, counts = memory
    nightly = [kind for kind, how in told.kinds.items() if how.held == "nightly"]
    items = [row for row in due if row[0] in nightly] + counts_told(house, told, counts)
    if told.nights:
        items.append(NIGHT)
    return (tuple(items), (() if told.daily else numbered, (), first_memory(house)[2]))


def given(rules, reader, memory, move, rows):
    """As gives, of what surely has the forms."""
    told = rules.by_reader[reader]
    if move == NIGHT:
        return given_by_night(rules.house, told, memory)
    return given_by_deed(rules.house, told, memory, move, rows)


def gives(rules, reader, memory, move, rows):
    """The items that the reader is given by a move that writes these rows, and the memory behind it."""
    if reader not in rules.readers:
        raise BadReader(reader)
    if not is_memory(rules.house, memory):
        raise BadMemory(memory)
    if not is_move(rules.house, move):
        raise BadMove(move)
    if not are_written_rows(rules.house, rows, move):
        raise BadRows(rows)
    return given(rules, reader, memory, move, rows)


def is_pool(rules, value):
    """Whether the value is an ascending tuple of one or more readers."""
    if not isinstance(value, tuple) or value == ():
        return False
    return value == tuple([reader for reader in rules.readers if reader in value])


def shown_to(rules, pool, memories, move, rows):
    """What the move shows the pool, and the memories of its readers behind it."""
    each = [given(rules, reader, memory, move, rows) for reader, memory in zip(pool, memories)]
    return (tuple([items for items, _ in each]), tuple([memory for _, memory in each]))


def is_unseen(shown):
    """Whether this shows nothing to anybody."""
    return all([items == () for items in shown])


def shown_along(rules, pool, run):
    """What each move of the run shows the pool, of a pool and a run that surely are such."""
    _, book = led(rules.house, run)
    memories = tuple([first_memory(rules.house) for _ in pool])
    each = []
    for move, rows in zip(run, book):
        shown, memories = shown_to(rules, pool, memories, move, rows)
        each.append(shown)
    return each


def view_of(rules, pool, run):
    """As view, of a pool and a run that surely are such."""
    return tuple([shown for shown in shown_along(rules, pool, run) if not is_unseen(shown)])


def view(rules, pool, run):
    """What the moves of the run show the pool, without those that are unseen."""
    if not is_pool(rules, pool):
        raise BadPool(pool)
    led(rules.house, run)
    return view_of(rules, pool, run)
