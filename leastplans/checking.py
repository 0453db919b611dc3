"""Whether a question is let."""

from leastplans.kindings import outputs
from leastplans.namings import named
from leastplans.placings import placed_well


def checked(house, question):
    """The outputs of a question; raises what is wrong with it."""
    named(house, question)
    found = outputs(house, question)
    placed_well(question)
    return found
