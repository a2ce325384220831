"""Threads: the sets of cases that come by ways."""

from givenout.errors import TooMany
from givenout.lores import LIMIT, first_out
from givenout.walks import UNSEEN


def few_spread(walks, row):
    """The numbers of the cases of the lore of a thread, as keys, unless there are more than are looked at."""
    lore = walks.spread(row, LIMIT)
    if len(lore) > LIMIT:
        raise TooMany(LIMIT)
    return lore


def threads_behind(walks, lore):
    """For each thing that moves of the cases of a lore can show, the ascending numbers of the cases behind these."""
    found = {}
    for number in lore:
        for part, row in walks.branches_of(number).items():
            if part != UNSEEN:
                among = found.setdefault(part, {})
                for behind in row:
                    among[behind] = True
    return {part: tuple(sorted(among)) for part, among in found.items()}


class Threads:
    """All threads that come of one by any ways, whether a secret is out or not; each has a number, the first one 0.

    walks: those by each way, silence last; words: those of the secrets; rows: for each thread the ascending numbers of
    its cases; numbers: the number of each row; outs: for each thread, by ways, the number of the first secret that is
    out in its lore, -1 for none; nexts: likewise, for each thing that can be shown the number of the thread behind.
    """

    def __init__(self, walks, words, row):
        self.walks = walks
        self.words = words
        self.rows = []
        self.numbers = {}
        self.outs = []
        self.nexts = []
        self.number_of(row)
        while len(self.outs) < len(self.rows):
            self.look_on()

    def number_of(self, row):
        """The number of the thread of these cases."""
        number = self.numbers.get(row)
        if number is None:
            number = len(self.rows)
            if number == LIMIT:
                raise TooMany(LIMIT)
            self.numbers[row] = number
            self.rows.append(row)
        return number

    def look_on(self):
        """Finds out what comes of the first thread that was not looked at yet."""
        row = self.rows[len(self.outs)]
        outs, nexts = [], []
        for walks in self.walks:
            lore = few_spread(walks, row)
            behind = threads_behind(walks, lore)
            outs.append(first_out(walks, self.words, lore))
            nexts.append({part: self.number_of(behind[part]) for part in behind})
        self.outs.append(outs)
        self.nexts.append(nexts)
