"""A desk: it answers questions, and keeps plans as long as nothing changes on which they stand."""

from leastplans.blocks import block_of
from leastplans.choosing import least
from leastplans.cursors import Cursor, drained
from leastplans.errors import NoName
from leastplans.explaining import explained
from leastplans.judging import judged_top
from leastplans.keptplans import Kept
from leastplans.planreadings import read_plan
from leastplans.putting import used
from leastplans.questionreading import read_question
from leastplans.showing import shown


class Desk:
    """A desk over a house, which it does not change."""

    def __init__(self, house):
        self.house = house
        self.kept_by = {}
        self.many_made = 0

    def block_told(self, text):
        return self.kept_for(text).block

    def plan_of(self, text):
        return self.kept_for(text).found.top

    def price_of(self, text):
        return self.kept_for(text).found.price

    def floors_of(self, text):
        return self.kept_for(text).found.floors

    def explain(self, text):
        kept = self.kept_for(text)
        return explained(kept.block, kept.found.top)

    def cursor_of(self, text):
        kept = self.kept_for(text)
        return Cursor(self.house, kept.block, kept.found.top)

    def ask(self, text):
        """The answer to a question."""
        return drained(self.cursor_of(text))

    def hand(self, text, plantext):
        """The answer to a question by a plan of the caller."""
        block = block_of(self.house, read_question(text))
        own = read_plan(plantext)
        judged_top(block, own)
        return drained(Cursor(self.house, block, own))

    def is_kept(self, text):
        """True if what is kept for a question would be taken now."""
        return self.fresh_kept(read_question(text)) is not None

    def made(self):
        """How many Kepts have been made."""
        return self.many_made

    def kept_for(self, text):
        """The Kept of a question, made anew if there is none, or something has changed."""
        tree = read_question(text)
        kept = self.fresh_kept(tree)
        if kept is None:
            block = block_of(self.house, tree)
            kept = Kept(used(self.house, tree), block, least(block, ()))
            self.kept_by[shown(tree)] = kept
            self.many_made += 1
        return kept

    def fresh_kept(self, tree):
        """What is kept for a tree if it stands on the same names and editions now, or None."""
        # a tree may be too deep for a key, and no other one is shown alike
        kept = self.kept_by.get(shown(tree))
        if kept is None:
            return None
        try:
            is_same = used(self.house, tree) == kept.used
        except NoName:
            return None
        return kept if is_same else None
