"""Texts of lines that stand one below the other: houses and rules are read by these."""

from givenout.errors import BadText


def is_name(word):
    """Whether the word is 1 to 8 letters a to z."""
    return 1 <= len(word) <= 8 and all([sign in "abcdefghijklmnopqrstuvwxyz" for sign in word])


def number_of(word):
    """The number that is written so, -1 if none is."""
    if not 1 <= len(word) <= 9 or not all([sign in "0123456789" for sign in word]):
        return -1
    if len(word) > 1 and word[0] == "0":
        return -1
    return int(word)


class Lines:
    """The lines of a text, taken one behind the other; what cannot stand there raises BadText.

    number is that of the line that was taken last, from 1: what is needed is needed of this line.
    """

    def __init__(self, text):
        if not isinstance(text, str):
            raise BadText(0)
        self.rows = text.split("\n")
        self.number = 0

    def need(self, holds):
        """Refuses the line that was taken last if this does not hold."""
        if not holds:
            raise BadText(self.number)

    def is_left(self):
        """Whether there are lines that were not taken."""
        return self.number < len(self.rows)

    def words_ahead(self, depth):
        """The words of the line that comes next if it stands that deep, otherwise none."""
        if not self.is_left():
            return []
        row = self.rows[self.number]
        if not row.startswith("  " * depth):
            return []
        # One that stands deeper begins with an empty word, which is no word of any form.
        return row[2 * depth:].split(" ")

    def is_next(self, depth, words):
        """Whether the line that comes next stands that deep and begins with one of the words."""
        ahead = self.words_ahead(depth)
        return ahead != [] and ahead[0] in words

    def is_more(self, depth, words, found, least, most):
        """Whether one more such line is to be taken behind those that were found: it must while they are too few."""
        if len(found) < least:
            return True
        return len(found) < most and self.is_next(depth, words)

    def take(self, depth, words):
        """Takes the next line, which stands that deep and begins with one of the words; returns all its words."""
        ahead = self.words_ahead(depth)
        self.number += 1
        self.need(ahead != [] and ahead[0] in words)
        return ahead

    def take_exactly(self, depth, words, many):
        """As take, of a line of so many words."""
        ahead = self.take(depth, words)
        self.need(len(ahead) == many)
        return ahead

    def take_end(self):
        """Refuses a line that stands behind the last one."""
        if self.is_left():
            raise BadText(self.number + 1)

    def take_block(self, depth):
        """Takes all lines that come next and stand that deep; returns their text as if they stood by themselves."""
        rows = []
        while self.is_left() and self.rows[self.number].startswith("  " * depth):
            rows.append(self.rows[self.number][2 * depth:])
            self.number += 1
        return "\n".join(rows)

    def new_name(self, word, names):
        """The word, if it is a name that is not among these."""
        self.need(is_name(word) and word not in names)
        return word

    def place(self, word, names):
        """The place of the word among these names."""
        self.need(word in names)
        return names.index(word)

    def number_from(self, word, low, limit):
        """The number that is written so, if it is from low on and below the limit."""
        number = number_of(word)
        self.need(low <= number < limit)
        return number
