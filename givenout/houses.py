"""Houses: people, cells, kinds of rows and deeds, read from a text."""

from givenout.deedlines import take_deed
from givenout.lines import Lines, is_name


def take_people(lines):
    """The names of the people."""
    names = lines.take(0, ("people",))[1:]
    lines.need(1 <= len(names) <= 3 and len(set(names)) == len(names))
    lines.need(all([is_name(name) and name != "who" for name in names]))
    return tuple(names)


def take_cell(lines, names):
    """A cell that has none of these names: (name, size, first)."""
    _, name, size, first = lines.take_exactly(0, ("cell",), 4)
    lines.need(name != "it")
    name = lines.new_name(name, names)
    size = lines.number_from(size, 2, 5)
    return (name, size, lines.number_from(first, 0, size))


def take_cells(lines):
    """The cells."""
    cells = []
    while lines.is_more(0, ("cell",), cells, 1, 3):
        cells.append(take_cell(lines, [cell[0] for cell in cells]))
    return tuple(cells)


def take_field(lines, names):
    """A field that has none of these names: (name, size), None as size of a person."""
    if lines.is_next(1, ("who",)):
        return (lines.new_name(lines.take_exactly(1, ("who",), 2)[1], names), None)
    _, name, size = lines.take_exactly(1, ("worth",), 3)
    return (lines.new_name(name, names), lines.number_from(size, 2, 5))


def take_kind(lines, names):
    """A kind that has none of these names: (name, fields)."""
    name = lines.new_name(lines.take_exactly(0, ("kind",), 2)[1], names)
    fields = []
    while lines.is_more(1, ("who", "worth"), fields, 0, 3):
        fields.append(take_field(lines, [field[0] for field in fields]))
    return (name, tuple(fields))


def take_kinds(lines):
    """The kinds of rows."""
    kinds = []
    while lines.is_more(0, ("kind",), kinds, 0, 3):
        kinds.append(take_kind(lines, [kind[0] for kind in kinds]))
    return tuple(kinds)


def take_deeds(lines, people, cells, kinds):
    """The deeds, with all that they do."""
    deeds = []
    while lines.is_more(0, ("deed",), deeds, 1, 4):
        deeds.append(take_deed(lines, people, cells, kinds, [deed.name for deed in deeds]))
    return deeds


class House:
    """A house, by its text.

    scripts: the Deed of each name of a deed; doings: all moves that are deeds, ascending, whatever their tests.
    """

    def __init__(self, text):
        lines = Lines(text)
        self.text = text
        self.people = take_people(lines)
        self.cells = take_cells(lines)
        self.kinds = take_kinds(lines)
        deeds = take_deeds(lines, self.people, self.cells, self.kinds)
        self.deeds = tuple([(deed.name, deed.by, deed.pick) for deed in deeds])
        self.scripts = {deed.name: deed for deed in deeds}
        doings = [("do", name, who, it) for name, by, pick in self.deeds for who in by for it in range(pick)]
        self.doings = tuple(sorted(doings))
        self.day = lines.number_from(lines.take_exactly(0, ("day",), 2)[1], 1, 4)
        lines.take_end()

    def __eq__(self, other):
        return isinstance(other, House) and self.text == other.text
