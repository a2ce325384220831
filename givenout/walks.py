"""Walks: the cases that come one of another, by numbers."""

from givenout.cases import start_case, steps_from
from givenout.notes import answer_by

# What a move shows has a number from 1 on if it is not unseen.
UNSEEN = 0
# Something that is not unseen; what it is, is not known.
HIDDEN = -1


def in_rank(cases):
    """The cases, ascending, and the place among them of each of them, by the numbers that they have now."""
    order = sorted([(case, number) for number, case in enumerate(cases)])
    return ([case for case, _ in order], {number: rank for rank, (_, number) in enumerate(order)})


class Walks:
    """The cases that come for a pool and some asks, each with a number, that of the first case being 0.

    cases: the case of each number; numbers: the number of each case; parts: the number of each thing that is shown.
    steps, branches, given: what steps_of, behind and answers_of have worked out, by the numbers of cases.
    """

    def __init__(self, rules, pool, asks):
        self.rules = rules
        self.pool = pool
        self.asks = asks
        self.cases = []
        self.numbers = {}
        self.parts = {tuple([() for _ in pool]): UNSEEN}
        self.steps = {}
        self.branches = {}
        self.given = {}
        self.number_of(start_case(rules.house, pool, asks))

    def number_of(self, case):
        """The number of what is a case by its form."""
        number = self.numbers.get(case)
        if number is None:
            number = len(self.cases)
            self.numbers[case] = number
            self.cases.append(case)
        return number

    def part_of(self, shown):
        """The number of what is shown."""
        part = self.parts.get(shown)
        if part is None:
            part = len(self.parts)
            self.parts[shown] = part
        return part

    def parts_of(self, view):
        """The numbers of what the parts of a view show."""
        return tuple([self.part_of(shown) for shown in view])

    def steps_of(self, number):
        """For each move that is possible in a case: (move, number of what it shows, number of the case behind)."""
        steps = self.steps.get(number)
        if steps is None:
            told = steps_from(self.rules, self.pool, self.asks, self.cases[number])
            steps = tuple([(move, self.part_of(shown), self.number_of(case)) for move, shown, case in told])
            self.steps[number] = steps
        return steps

    def branches_of(self, number):
        """For each thing that moves of a case show, the numbers of the cases behind these."""
        branches = self.branches.get(number)
        if branches is None:
            branches = {}
            for _, part, behind in self.steps_of(number):
                branches.setdefault(part, []).append(behind)
            self.branches[number] = branches
        return branches

    def behind(self, number, part):
        """The numbers of the cases behind all moves of a case that show this."""
        branches = self.branches_of(number)
        if part == HIDDEN:
            return [behind for shown, row in branches.items() if shown != UNSEEN for behind in row]
        return branches.get(part, [])

    def all_behind(self, numbers, part):
        """The same of several cases, each number once."""
        return list({behind: True for number in numbers for behind in self.behind(number, part)})

    def spread(self, starts, most):
        """The numbers of all cases that come of these by unseen moves, by none too, as keys.

        If there are more than most (None: however many there are), just some of them, but more than most.
        """
        found = {number: True for number in starts}
        ahead = list(found)
        while ahead != []:
            fresh = []
            for number in ahead:
                if most is not None and len(found) > most:
                    return found
                for behind in self.behind(number, UNSEEN):
                    if behind not in found:
                        found[behind] = True
                        fresh.append(behind)
            ahead = fresh
        return found

    def answers_of(self, number):
        """The answers of a case to the asks."""
        given = self.given.get(number)
        if given is None:
            stand, _, notes = self.cases[number]
            house = self.rules.house
            given = tuple([answer_by(house, ask, stand[0], entries) for ask, entries in zip(self.asks, notes)])
            self.given[number] = given
        return given

    def told(self, numbers):
        """The ascending tuple of the cases of these numbers."""
        return tuple(sorted([self.cases[number] for number in numbers]))

    def ranked(self):
        """All cases that have numbers, ascending, and the place among them of the case of each number."""
        return in_rank(self.cases)


def walks_beside(walks, rules):
    """Walks of the same pool and asks by other rules, in which cases and what is shown have the same numbers."""
    beside = Walks(rules, walks.pool, walks.asks)
    beside.cases = walks.cases
    beside.numbers = walks.numbers
    beside.parts = walks.parts
    beside.given = walks.given
    return beside
