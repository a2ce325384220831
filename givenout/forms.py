"""What values are by their form: stands, moves, rows, memories and items of a house."""

NIGHT = ("night",)
# What can stand in a given row in the place of a person: nobody has a higher number, since there are three people.
MARKS = ("-", "#0", "#1", "#2")


def is_from(value, low, limit):
    """Whether the value is an integer from low on and below the limit."""
    return isinstance(value, int) and not isinstance(value, bool) and low <= value < limit


def is_tuple_of(value, many):
    """Whether the value is a tuple of so many members."""
    return isinstance(value, tuple) and len(value) == many


def size_of_cell(house, cell):
    """The size of the cell of this name, 0 if there is none."""
    for name, size, _ in house.cells:
        if name == cell:
            return size
    return 0


def pick_of_deed(house, deed):
    """What the deed of this name picks from, 0 if there is none."""
    for name, _, pick in house.deeds:
        if name == deed:
            return pick
    return 0


def is_stand(house, value):
    """Whether the value is a stand by its form."""
    if not is_tuple_of(value, 2) or not is_tuple_of(value[0], len(house.cells)):
        return False
    fits = [is_from(worth, 0, size) for worth, (_, size, _) in zip(value[0], house.cells)]
    return all(fits) and is_from(value[1], 0, house.day + 1)


def is_deed(house, value):
    """Whether the value is a move that is a deed, by its form."""
    if not is_tuple_of(value, 4) or value[0] != "do":
        return False
    for name, by, pick in house.deeds:
        if name == value[1]:
            return value[2] in by and is_from(value[3], 0, pick)
    return False


def is_move(house, value):
    """Whether the value is a move by its form, whatever the tests."""
    return value == NIGHT or is_deed(house, value)


def is_row(house, value, words, low):
    """Whether the value is a row in which people are one of the words, worths integers from low on."""
    if not is_tuple_of(value, 2):
        return False
    for kind, fields in house.kinds:
        if kind == value[0]:
            return is_tuple_of(value[1], len(fields)) and all([
                one in words if size is None else is_from(one, low, size)
                for one, (_, size) in zip(value[1], fields)])
    return False


def is_written_row(house, value):
    """Whether the value is a row by its form, as a deed writes it."""
    return is_row(house, value, house.people, 0)


def is_given_row(house, value):
    """Whether the value is a row by its form, as it can be given."""
    return is_row(house, value, house.people + MARKS, -1)


def are_written_rows(house, value, move):
    """Whether the value is a tuple of rows as such a move can write them."""
    if not isinstance(value, tuple) or len(value) > 2:
        return False
    if move == NIGHT:
        return value == ()
    return all([is_written_row(house, row) for row in value])


def are_people(house, value):
    """Whether the value is a tuple of different people."""
    if not isinstance(value, tuple) or not all([who in house.people for who in value]):
        return False
    return len(set(value)) == len(value)


def are_due(house, value):
    """Whether the value is a sorted tuple of rows as they can be given."""
    if not isinstance(value, tuple) or not all([is_given_row(house, row) for row in value]):
        return False
    return list(value) == sorted(value)


def is_memory(house, value):
    """Whether the value is a memory of a reader by its form, whatever the rules."""
    if not is_tuple_of(value, 3) or not is_tuple_of(value[2], len(house.kinds)):
        return False
    counts = all([is_from(count, 0, 4) for count in value[2]])
    return counts and are_people(house, value[0]) and are_due(house, value[1])


def is_item(house, value):
    """Whether the value is an item by its form."""
    if not is_tuple_of(value, 3):
        return value == NIGHT or is_given_row(house, value)
    word, name, many = value
    if word == "did":
        return is_from(many, 0, pick_of_deed(house, name))
    return word == "count" and name in [kind for kind, _ in house.kinds] and is_from(many, 0, 4)


def is_part(house, pool, value):
    """Whether the value is a part of a view by its form: items for each reader of the pool, and not none at all."""
    if not is_tuple_of(value, len(pool)) or not all([isinstance(items, tuple) for items in value]):
        return False
    each = [item for items in value for item in items]
    return each != [] and all([is_item(house, item) for item in each])


def is_ascending(values):
    """Whether what can be compared is sorted, and nothing stands there twice."""
    return all([one < other for one, other in zip(values, values[1:])])


def is_alike(value, known):
    """Whether the value is the known one, of the same kinds throughout."""
    # True is equal to 1, but it is not written like it.
    return value == known and repr(value) == repr(known)
