"""A desk: an office that is spoken to by lines."""

from givenout.errors import BadLine, BadNumber
from givenout.journals import read_journal
from givenout.lines import number_of
from givenout.reading import ask_of, move_of
from givenout.stands import possible_moves
from givenout.texts import show_item, show_move, write_change

PLAIN = ("undo", "redo", "moves", "stand")
NUMBERED = ("way", "cases")


def given_text(entry):
    """What is given, by (reader, items) for each reader."""
    rows = [reader + ": " + ", ".join([show_item(item) for item in items]) for reader, items in entry if items != ()]
    return "-" if rows == [] else "; ".join(rows)


def answer_text(given):
    """The word of an answer."""
    if isinstance(given, bool):
        return "yes" if given else "no"
    return "-" if given == "" else str(given)


def plain_text(office, word):
    """What is said to one of the plain words."""
    if word == "moves":
        return "; ".join([show_move(move) for move in possible_moves(office.rules.house, office.stand)])
    if word == "stand":
        worths, today = office.stand
        return " ".join([str(worth) for worth in worths + (today,)])
    if word == "undo":
        office.undo()
    else:
        office.redo()
    return "done"


def way_text(ways, way):
    """What is said of the way of this number among those that are left."""
    if way == len(ways):
        return "silence"
    return "-" if ways[way] == () else "; ".join([write_change(change) for change in ways[way]])


def guard_text(office, word, number):
    """What is said of the guard of this number."""
    if number >= len(office.guards):
        raise BadNumber(number)
    if word == "way":
        return way_text(office.guards[number][2], office.ways[number])
    return str(len(office.threads[number]))


class Desk:
    """An office, by its journal."""

    def __init__(self, text):
        self.office = read_journal(text)

    def say(self, line):
        """What the office answers to the line."""
        words = line.split(" ") if isinstance(line, str) else [""]
        office = self.office
        move = move_of(words[1:] if words[0] == "may" else words)
        if move is not None:
            return given_text(office.may_give(move) if words[0] == "may" else office.do(move))
        if len(words) == 1 and words[0] in PLAIN:
            return plain_text(office, words[0])
        number = number_of(words[1]) if len(words) > 1 else -1
        if number >= 0 and len(words) == 2 and words[0] in NUMBERED:
            return guard_text(office, words[0], number)
        ask = ask_of(office.rules.house, words[2:]) if number >= 0 and words[0] == "known" else None
        if ask is None:
            raise BadLine(line)
        return " / ".join([answer_text(given) for given in office.known(number, ask)])
