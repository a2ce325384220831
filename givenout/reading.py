"""Reading: runs, views, asks and changes from their texts."""

from givenout.asks import MOST_DEEP, is_ask
from givenout.changes import is_change
from givenout.errors import BadPool, BadText
from givenout.forms import NIGHT, is_item
from givenout.giving import is_pool
from givenout.lines import Lines, is_name, number_of
from givenout.notes import PARTED
from givenout.stands import led

ITEMS = ("did", "row", "count", "night")

# For the words with which asks begin that have no asks in them, whether names (w) or numbers (n) stand behind.
ASKS = {"now": "wn", "done": "wwn", "today": "wwn", "last": "ww", "often": "wn", "worth": "w", "who": "w",
        "times": "wn"}


def move_of(words):
    """The move by its form that these words tell, None if they tell none."""
    if words == ["night"]:
        return NIGHT
    if len(words) != 4 or words[0] != "do" or not is_name(words[1]) or not is_name(words[2]):
        return None
    it = number_of(words[3])
    return None if it < 0 else ("do", words[1], words[2], it)


def take_move(lines, depth):
    """The move of the next line, which stands that deep."""
    move = move_of(lines.take(depth, ("do", "night")))
    lines.need(move is not None)
    return move


def read_run(house, text):
    """The run that has this text."""
    lines = Lines(text)
    moves = []
    while text != "" and lines.is_left():
        moves.append(take_move(lines, 0))
    run = tuple(moves)
    led(house, run)
    return run


def value_of(size, word):
    """What stands in a field of this size, None for one of a person, by its word; None if it is no such word."""
    if size is None:
        return word
    if word == "-":
        return -1
    number = number_of(word)
    return number if number >= 0 else None


def row_of(house, words):
    """The row that is given that these words tell, or something else if they tell none."""
    for kind, fields in house.kinds:
        if words[1:2] == [kind] and len(words) == 2 + len(fields):
            return (kind, tuple([value_of(size, word) for word, (_, size) in zip(words[2:], fields)]))
    return None


def item_of(house, words):
    """The item that these words tell, or something else if they tell none."""
    if words[0] == "row":
        return row_of(house, words)
    if len(words) == 3:
        return (words[0], words[1], number_of(words[2]))
    return tuple(words)


def take_items(lines, house):
    """The items of the next lines: one at least."""
    items = []
    while items == [] or lines.is_next(2, ITEMS):
        item = item_of(house, lines.take(2, ITEMS))
        lines.need(is_item(house, item))
        items.append(item)
    return tuple(items)


def take_part(lines, rules, pool):
    """The next part of a view."""
    lines.take_exactly(0, ("part",), 1)
    given = {}
    least = 0
    while given == {} or lines.is_next(1, ("reader",)):
        reader = lines.take_exactly(1, ("reader",), 2)[1]
        place = lines.place(reader, pool)
        lines.need(place >= least)
        given[reader] = take_items(lines, rules.house)
        least = place + 1
    return tuple([given.get(reader, ()) for reader in pool])


def read_view(rules, pool, text):
    """The view of the pool, by its form, that has this text."""
    if not is_pool(rules, pool):
        raise BadPool(pool)
    lines = Lines(text)
    parts = []
    while text != "" and lines.is_left():
        parts.append(take_part(lines, rules, pool))
    return tuple(parts)


def word_told(form, word):
    """What the word tells where a name or a number stands in an ask."""
    if word == "-":
        return None
    return word if form == "w" else number_of(word)


def ask_ahead(words, depth):
    """(what the first words tell if they are an ask, which is at most so deep; the words behind it)."""
    if words == [] or depth == 0:
        return (None, [])
    if words[0] in PARTED:
        ask, rest = words[:1], words[1:]
        for _ in range(1 if words[0] == "not" else 2):
            part, rest = ask_ahead(rest, depth - 1)
            ask.append(part)
        return (tuple(ask), rest)
    forms = ASKS.get(words[0], "")
    here = len(forms) + 1
    return (tuple(words[:1] + [word_told(form, word) for form, word in zip(forms, words[1:here])]), words[here:])


def ask_of(house, words):
    """The ask of the house that these words tell, None if they tell none."""
    # Words that are no ask tell something that is none, either.
    ask, rest = ask_ahead(words, MOST_DEEP)
    return ask if rest == [] and is_ask(house, ask) else None


def read_ask(house, text):
    """The ask of the house that has this text."""
    ask = ask_of(house, Lines(text).rows[0].split(" "))
    if ask is None or "\n" in text:
        raise BadText(1)
    return ask


def change_of(words):
    """The change by its form that these words tell, None if they tell none."""
    last = number_of(words[-1]) if words[0] in ("coarse", "counted") else words[-1]
    change = tuple(words[:-1] + [last])
    return change if is_change(change) else None


def read_change(text):
    """The change, by its form, that has this text."""
    change = change_of(Lines(text).rows[0].split(" "))
    if change is None or "\n" in text:
        raise BadText(1)
    return change
