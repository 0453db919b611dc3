"""What a desk keeps for a question."""


class Kept:
    """The names with editions on which a question stands, its block, and what choosing found."""

    def __init__(self, used, block, found):
        self.used = used
        self.block = block
        self.found = found
