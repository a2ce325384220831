"""Proofs: whether lores and members that were handed in show what they are told for."""

from givenout.cases import is_case
from givenout.forms import is_ascending, is_from, is_tuple_of
from givenout.walks import UNSEEN


def is_case_of(walks, value):
    """Whether the value is a case by its form."""
    return is_case(walks.rules, walks.pool, walks.asks, value)


def are_cases(walks, value):
    """Whether the value is an ascending tuple of one or more cases by their form."""
    if not isinstance(value, tuple) or value == ():
        return False
    return all([is_case_of(walks, case) for case in value]) and is_ascending(value)


def numbers_of(walks, lores):
    """For each of the lores, which surely have the form, the numbers of its cases."""
    return [[walks.number_of(case) for case in row] for row in lores]


def holds_all(walks, numbers, part, others):
    """Whether all cases behind moves of the ones that show this are among the others."""
    among = {number: True for number in others}
    return all([behind in among for behind in walks.all_behind(numbers, part)])


def hold_all(walks, parts, value):
    """Whether the value is a lore ahead of this view and one behind each of its parts, each with all cases or more."""
    if not is_tuple_of(value, len(parts) + 1) or not all([are_cases(walks, row) for row in value]):
        return False
    rows = numbers_of(walks, value)
    return (0 in rows[0]
            and all([holds_all(walks, row, UNSEEN, row) for row in rows])
            and all([holds_all(walks, row, part, after) for row, part, after in zip(rows, parts, rows[1:])]))


def are_lores(walks, value):
    """Whether the value is an ascending tuple of ascending tuples of one or more cases by their form."""
    return isinstance(value, tuple) and all([are_cases(walks, row) for row in value]) and is_ascending(value)


def are_members(walks, value, limit):
    """Whether the value is an ascending tuple of (case by its form, number below the limit)."""
    if not isinstance(value, tuple) or not all([is_tuple_of(member, 2) for member in value]):
        return False
    fits = [is_case_of(walks, case) and is_from(number, 0, limit) for case, number in value]
    return all(fits) and is_ascending(value)


def is_within(numbers, among):
    """Whether all of the numbers are keys there."""
    for number in numbers:
        if number not in among:
            return False
    return True


class Table:
    """Lores and members, of the right form, that may show all that can come.

    rows: for each lore the numbers of its cases; places: for each number of a case the places of the lores with which
    it is a member; members: for each place of a lore the numbers of the cases that are members with it.
    """

    def __init__(self, walks, lores, members):
        self.walks = walks
        self.rows = numbers_of(walks, lores)
        self.places = {}
        self.members = {}
        for case, place in members:
            number = walks.number_of(case)
            self.places.setdefault(number, []).append(place)
            self.members.setdefault(place, []).append(number)

    def has(self, cases, among):
        """Whether each of the cases is a member with a lore all of whose cases are keys there."""
        fits = {}
        for number in cases:
            places = self.places.get(number, [])
            for place in places:
                if place not in fits:
                    fits[place] = is_within(self.rows[place], among)
            if not any([fits[place] for place in places]):
                return False
        return True

    def goes_on(self, place):
        """Whether all that comes of the members with this lore by one move is there, with lores that can be."""
        here = self.walks.spread(self.rows[place], None)
        parts = {part: True for number in self.members[place] for part in self.walks.branches_of(number)}
        for part in parts:
            among = here
            if part != UNSEEN:
                among = self.walks.spread(self.walks.all_behind(here, part), None)
            if not self.has(self.walks.all_behind(self.members[place], part), among):
                return False
        return True

    def is_closed(self):
        """Whether all that can come is there."""
        if not self.has([0], self.walks.spread([0], None)):
            return False
        for place in self.members:
            if not self.goes_on(place):
                return False
        return True
