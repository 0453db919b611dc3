"""A place in the words of a text, and what is open there."""

from leastplans.errors import BadText, TooMuch

MOST_OPEN = 20
MOST_AGGS = 4


class Reading:
    """A place in what words_of gave."""

    def __init__(self, words):
        self.words = words
        self.at = 0
        self.opened = 0
        self.deep = 0
        self.aggs = ()

    def look(self):
        return self.words[self.at][:2]

    def ahead(self, many):
        place = min(self.at + many, len(self.words) - 1)
        return self.words[place][:2]

    def take(self):
        value = self.words[self.at][1]
        if self.at < len(self.words) - 1:
            self.at += 1
        return value

    def expect(self, value):
        if not self.stands(value):
            self.bad()
        return self.take()

    def take_name(self):
        if self.look()[0] != "name":
            self.bad()
        return self.take()

    def bad(self):
        raise BadText(self.words[self.at][2])

    def stands(self, value):
        """True if the word in hand is this sign or reserved word."""
        kind, word = self.look()
        return kind in ("sign", "word") and word == value

    def stands_one(self, values):
        """True if the word in hand is one of these signs and reserved words."""
        kind, word = self.look()
        return kind in ("sign", "word") and word in values

    def enter(self, value):
        """Takes a word that stays open until leave."""
        if not self.stands(value):
            self.bad()
        if self.opened >= MOST_OPEN:
            raise TooMuch("depth")
        self.opened += 1
        return self.take()

    def leave(self):
        self.opened -= 1

    def end_agg(self, agg):
        """Takes the ) of an agg, which counts from there on."""
        if not self.stands(")"):
            self.bad()
        if agg not in self.aggs:
            if len(self.aggs) >= MOST_AGGS:
                raise TooMuch("aggs")
            self.aggs = self.aggs + (agg,)
        self.take()

    def end(self):
        """Raises if a word is left in hand."""
        if self.look()[0] != "end":
            self.bad()
