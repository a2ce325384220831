"""The deeds of a house, as its lines tell them."""

from givenout.lines import number_of


class Deed:
    """A deed: who may do it, and what it does.

    tests: (place of the cell, whether it must have the worth or must not, the worth).
    changes: ("set" or "add", place of the cell, source); rows: (kind, a source for each field).
    A source tells where a worth or a person comes from: (word, what), see source_of_worth and source_of_person.
    """

    def __init__(self, name, by):
        self.name = name
        self.by = by
        self.tests = []
        self.pick = 1
        self.changes = []
        self.rows = []


def worked_out(source, worths, who, it):
    """The worth or the person that comes from the source."""
    word, what = source
    if word == "cell":
        return worths[what]
    if word == "it":
        return it
    if word == "who":
        return who
    return what


def source_of_worth(lines, word, size, cells, pick):
    """The source of a worth that must fit where worths are below size."""
    names = [cell[0] for cell in cells]
    if word == "it":
        lines.need(pick <= size)
        return ("it", 0)
    if word in names:
        place = names.index(word)
        lines.need(cells[place][1] <= size)
        return ("cell", place)
    number = number_of(word)
    lines.need(0 <= number < size)
    return ("plain", number)


def source_of_person(lines, word, people):
    """The source of a person."""
    if word == "who":
        return ("who", 0)
    lines.need(word in people)
    return ("plain", word)


def take_by(lines, people):
    """The people who may do the deed, in the house's sequence."""
    if not lines.is_next(1, ("by",)):
        return people
    names = lines.take(1, ("by",))[1:]
    lines.need(len(names) > 0 and len(set(names)) == len(names))
    lines.need(all([name in people for name in names]))
    return tuple([name for name in people if name in names])


def take_test(lines, cells):
    """What must hold ahead of the deed."""
    _, cell, sign, worth = lines.take_exactly(1, ("if",), 4)
    place = lines.place(cell, [known[0] for known in cells])
    lines.need(sign in ("=", "!="))
    return (place, sign == "=", lines.number_from(worth, 0, cells[place][1]))


def take_pick(lines):
    """How many there are to pick from."""
    if not lines.is_next(1, ("pick",)):
        return 1
    return lines.number_from(lines.take_exactly(1, ("pick",), 2)[1], 2, 5)


def take_change(lines, cells, pick):
    """A change of a cell."""
    word, cell, worth = lines.take_exactly(1, ("set", "add"), 3)
    place = lines.place(cell, [known[0] for known in cells])
    return (word, place, source_of_worth(lines, worth, cells[place][1], cells, pick))


def take_row(lines, people, cells, kinds, pick):
    """A row that is written."""
    words = lines.take(1, ("row",))
    lines.need(len(words) > 1)
    kind, fields = kinds[lines.place(words[1], [known[0] for known in kinds])]
    lines.need(len(words) == 2 + len(fields))
    sources = []
    for word, (_, size) in zip(words[2:], fields):
        if size is None:
            sources.append(source_of_person(lines, word, people))
        else:
            sources.append(source_of_worth(lines, word, size, cells, pick))
    return (kind, tuple(sources))


def take_deed(lines, people, cells, kinds, names):
    """A deed that has none of these names, with the lines below it."""
    name = lines.new_name(lines.take_exactly(0, ("deed",), 2)[1], names)
    deed = Deed(name, take_by(lines, people))
    while lines.is_more(1, ("if",), deed.tests, 0, 2):
        deed.tests.append(take_test(lines, cells))
    deed.pick = take_pick(lines)
    while lines.is_more(1, ("set", "add"), deed.changes, 0, 3):
        deed.changes.append(take_change(lines, cells, deed.pick))
    while lines.is_more(1, ("row",), deed.rows, 0, 2):
        deed.rows.append(take_row(lines, people, cells, kinds, deed.pick))
    return deed
