"""Rules: which parts of a house's book its readers are given, read from a text."""

from givenout.lines import Lines, is_name

PUTS = ("blank", "number", "coarse")


class KindRules:
    """How a reader is given the rows of a kind.

    onlys: (place of the field, whether it must be the value or must not, the value).
    puts: for each field (word, n), the word being "plain", "blank", "number" or, with its n, "coarse".
    held: "" if given at once, otherwise "nightly", or "counted"; most: how many are counted.
    """

    def __init__(self, fields):
        self.onlys = []
        self.puts = [("plain", 0) for _ in fields]
        self.held = ""
        self.most = 0


class ReaderRules:
    """What a reader is given: person is who of the house the reader is, or None; kinds: KindRules by kinds."""

    def __init__(self):
        self.person = None
        self.daily = False
        self.nights = False
        self.kinds = {}


def take_word(lines, depth, word):
    """Whether the line of this one word stands there; then it is taken."""
    if not lines.is_next(depth, (word,)):
        return False
    lines.take_exactly(depth, (word,), 1)
    return True


def take_person(lines, house):
    """The person who the reader is, None if there is no such line."""
    if not lines.is_next(1, ("is",)):
        return None
    name = lines.take_exactly(1, ("is",), 2)[1]
    lines.need(name in house.people)
    return name


def take_only(lines, house, fields):
    """What must hold of the rows that are given."""
    _, field, sign, value = lines.take_exactly(2, ("only",), 4)
    place = lines.place(field, [name for name, _ in fields])
    lines.need(sign in ("=", "!="))
    size = fields[place][1]
    if size is None:
        lines.need(value in house.people)
        return (place, sign == "=", value)
    return (place, sign == "=", lines.number_from(value, 0, size))


def take_put(lines, fields, least):
    """The place of a field, which is at least so far behind, and how the field is put."""
    words = lines.take(2, PUTS)
    word = words[0]
    lines.need(len(words) == (3 if word == "coarse" else 2))
    place = lines.place(words[1], [name for name, _ in fields])
    lines.need(place >= least)
    is_person = fields[place][1] is None
    if word == "coarse":
        lines.need(not is_person)
        return (place, (word, lines.number_from(words[2], 2, 4)))
    lines.need(word == "blank" or is_person)
    return (place, (word, 0))


def take_counted(lines, is_put):
    """How many are counted, 0 if they are given; a kind with fields that are put is not counted."""
    if not lines.is_next(2, ("counted",)):
        return 0
    most = lines.take_exactly(2, ("counted",), 2)[1]
    lines.need(not is_put)
    return lines.number_from(most, 1, 4)


def take_kind_rules(lines, house, fields):
    """How rows of these fields are given: the lines below a kind."""
    given = KindRules(fields)
    while lines.is_more(2, ("only",), given.onlys, 0, 2):
        given.onlys.append(take_only(lines, house, fields))
    least = 0
    while lines.is_next(2, PUTS):
        place, put = take_put(lines, fields, least)
        given.puts[place] = put
        least = place + 1
    if take_word(lines, 2, "nightly"):
        given.held = "nightly"
        return given
    given.most = take_counted(lines, least > 0)
    if given.most > 0:
        given.held = "counted"
    return given


def take_reader_rules(lines, house):
    """What a reader is given: the lines below a reader."""
    told = ReaderRules()
    told.person = take_person(lines, house)
    told.daily = take_word(lines, 1, "daily")
    told.nights = take_word(lines, 1, "nights")
    names = [kind for kind, _ in house.kinds]
    least = 0
    while lines.is_next(1, ("kind",)):
        kind = lines.take_exactly(1, ("kind",), 2)[1]
        place = lines.place(kind, names)
        lines.need(place >= least)
        told.kinds[kind] = take_kind_rules(lines, house, house.kinds[place][1])
        least = place + 1
    return told


def take_readers(lines, house):
    """For each reader, by name, what the reader is given."""
    readers = {}
    last = ""
    while lines.is_more(0, ("reader",), readers, 1, 3):
        name = lines.take_exactly(0, ("reader",), 2)[1]
        lines.need(is_name(name) and name > last)
        readers[name] = take_reader_rules(lines, house)
        last = name
    return readers


class Rules:
    """Rules of a house, by their text; by_reader: the ReaderRules by readers."""

    def __init__(self, house, text):
        lines = Lines(text)
        self.house = house
        self.text = text
        self.by_reader = take_readers(lines, house)
        self.readers = tuple(self.by_reader)
        lines.take_end()

    def __eq__(self, other):
        return isinstance(other, Rules) and self.house == other.house and self.text == other.text
