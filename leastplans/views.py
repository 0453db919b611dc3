"""Making views."""

from leastplans.checking import checked
from leastplans.errors import TwiceNamed
from leastplans.meanings import names_used
from leastplans.questionreading import read_question


def make_view(house, name, text):
    """Gives the house a view; raises what is wrong with its text, name and question."""
    question = read_question(text)
    if name in house.names():
        raise TwiceNamed(name)
    checked(house, question)
    house.lay_view(name, question, names_used(house, question))
