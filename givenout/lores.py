"""Lores: the cases that are possible by what was shown."""

from givenout.errors import TooMany
from givenout.walks import UNSEEN

# More cases in a lore, or members of a table, are not looked at.
LIMIT = 2000

WORDS = ("yes", "no", "whether")


def answers_in(walks, place, numbers):
    """The ascending answers that the cases of these numbers give to the ask at this place."""
    return sorted(set([walks.answers_of(number)[place] for number in numbers]))


def is_out(word, given):
    """Whether a secret of this word is out where these are all answers."""
    return len(given) == 1 and (word == "whether" or given[0] == (word == "yes"))


def first_out(walks, words, numbers):
    """The place of the first secret that is out in a lore, by the words of the secrets, -1 if none is."""
    for place, word in enumerate(words):
        if is_out(word, answers_in(walks, place, numbers)):
            return place
    return -1


class Lores:
    """The lores that come, each with a number, that of the lore ahead of all that is shown being 0.

    rows: for each the ascending numbers of its cases; nexts: what behind has worked out.
    words: those of the secrets, the formulas of which are the asks, () if there are none.
    limit: None, or how many cases a lore can have before it is cut off. It is not cut off while a secret is out in it
    by what was found of it. is_over: whether a lore came with more cases than are looked at, if there is a limit.
    """

    def __init__(self, walks, words, limit):
        self.walks = walks
        self.words = words
        self.limit = limit
        self.is_over = False
        self.rows = []
        self.numbers = {}
        self.nexts = {}
        self.number_of([0])

    def closed(self, starts):
        """The numbers of the cases of the lore of these, closed by unseen moves."""
        most = self.limit
        found = self.walks.spread(starts, most)
        while most is not None and len(found) > most and first_out(self.walks, self.words, found) >= 0:
            most = 2 * len(found)
            found = self.walks.spread(starts, most)
        return tuple(sorted(found))

    def number_of(self, starts):
        """The number of the lore of these cases, closed by unseen moves."""
        row = self.closed(starts)
        number = self.numbers.get(row)
        if number is None:
            number = len(self.rows)
            self.numbers[row] = number
            self.rows.append(row)
        if self.limit is not None and len(row) > LIMIT:
            self.is_over = True
            self.make_haste()
        return number

    def make_haste(self):
        """From now on only such lores are worked out in which a secret is out: there are too many, unless one comes."""
        self.limit = 0

    def behind(self, number, part):
        """The number of the lore behind one by what shows this."""
        if part == UNSEEN:
            return number
        key = (number, part)
        if key not in self.nexts:
            self.nexts[key] = self.number_of(self.walks.all_behind(self.rows[number], part))
        return self.nexts[key]

    def led(self, number, parts):
        """The numbers of a lore and of those behind it by what shows these, one behind the other."""
        numbers = [number]
        for part in parts:
            numbers.append(self.behind(numbers[-1], part))
        return numbers

    def need_few(self):
        """Refuses to go on if a lore has more cases than are looked at."""
        if self.is_over:
            raise TooMany(LIMIT)

    def answers_at(self, number):
        """The ascending tuple of the answers to the first ask that are possible in a lore."""
        return tuple(answers_in(self.walks, 0, self.rows[number]))
