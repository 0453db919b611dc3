"""[14] [15] [20] The readers beside a slow one that knows nothing but the grammar as it is printed."""

import random
import unittest

import helper
from leastplans.errors import BadText, TooMuch
from leastplans.exprreading import expr_from, read_expr
from leastplans.questionreading import cond_from, question_from, read_cond, read_question
from leastplans.reading import Reading
from leastplans.showing import shown, shown_cond, shown_expr
from leastplans.words import RESERVED, words_of

PRINTED = """
expr: term | expr + term | expr - term
term: factor | term * factor
factor: NUMBER | TEXT | col | agg | - factor | ( expr )
col: NAME . NAME
agg: count ( * ) | count ( col ) | sum ( col ) | min ( col ) | max ( col )
question: with? select distinct? items from source more where? group? having? order? limit?
with?: | with withs
withs: W | withs , W
distinct?: | distinct
items: item | items , item
where?: | where cond
group?: | group by groups
groups: col | groups , col
having?: | having cond
order?: | order by orders
orders: way | orders , way
way: NAME | NAME asc | NAME desc
limit?: | limit NUMBER
W: NAME as ( question )
item: expr as NAME | col
source: NAME | NAME NAME | ( question ) NAME
more: | more another
another: , source | join source on cond | left join source on cond
cond: both | cond or both
both: one | both and one
one: not one | maybe one | [ cond ] | exists ( from source more where? )
one: expr op expr | expr is null | expr is not null | expr in ( question ) | expr not in ( question )
op: = | <> | < | <= | > | >=
"""
GRAMMAR = {}
for line in PRINTED.strip().split("\n"):
    head, told = line.split(":", 1)
    for choice in told.split("|"):
        GRAMMAR.setdefault(head, []).append(tuple(choice.split()))
READERS = {"expr": read_expr, "cond": read_cond, "question": read_question}
FROM = {"expr": expr_from, "cond": cond_from, "question": question_from}
SHOWN = {"expr": shown_expr, "cond": shown_cond, "question": shown}


def sort_of(word):
    """A word as it stands in the grammar."""
    kind, value, _ = word
    return value if kind in ("word", "sign") else kind.upper()


def first_wrong(start, sorts):
    """The first word that cannot stand there, by Earley's way; None if the whole is a text."""
    columns = [[] for _ in range(len(sorts) + 1)]
    known = [set() for _ in columns]

    def put(place, item):
        if item not in known[place]:
            known[place].add(item)
            columns[place].append(item)

    for choice in GRAMMAR[start]:
        put(0, (start, choice, 0, 0))
    for place, column in enumerate(columns):
        for head, choice, dot, begun in column:
            if dot == len(choice):
                for other in list(columns[begun]):
                    if other[2] < len(other[1]) and other[1][other[2]] == head:
                        put(place, (other[0], other[1], other[2] + 1, other[3]))
            elif choice[dot] in GRAMMAR:
                for inner in GRAMMAR[choice[dot]]:
                    put(place, (choice[dot], inner, 0, place))
                # what may be empty was met before it was asked for
                if any(item[0] == choice[dot] and item[2] == len(item[1]) and item[3] == place
                       for item in column):
                    put(place, (head, choice, dot + 1, begun))
            elif place < len(sorts) and sorts[place] == choice[dot]:
                put(place + 1, (head, choice, dot + 1, begun))
        if place < len(sorts) and not columns[place + 1]:
            return place
    if any(item[0] == start and item[2] == len(item[1]) and item[3] == 0 for item in columns[-1]):
        return None
    return len(sorts)


def sentence(chance, head, deep):
    """Words of the grammar by chance; the deeper, the shorter."""
    if head not in GRAMMAR:
        if head == "NAME":
            return [chance.choice(("a", "b", "t", "x_1", "long_name_12"))]
        if head == "NUMBER":
            return [chance.choice(("0", "7", "999999999"))]
        if head == "TEXT":
            return [chance.choice(("''", "'a b'", "'as ( from'"))]
        return [head]
    choices = GRAMMAR[head]
    if deep <= 0:
        least = min(map(cost, choices))
        choices = [choice for choice in choices if cost(choice) == least]
    return [word for part in chance.choice(choices) for word in sentence(chance, part, deep - 1)]


LEAST = {head: 1000 for head in GRAMMAR}


def cost(choice):
    return sum(LEAST.get(part, 0) for part in choice) + len(choice)


for _ in GRAMMAR:
    for head in GRAMMAR:
        LEAST[head] = min(map(cost, GRAMMAR[head]))
ANY_WORDS = ["a", "t", "0", "12", "'x'"] + list(RESERVED)
ANY_WORDS += "( ) [ ] , . * + - = <> < <= > >=".split()


def spoilt(chance, words):
    """The same words, some of them changed."""
    words = list(words)
    for _ in range(chance.choice((1, 1, 2))):
        at = chance.randrange(len(words) + 1)
        how = chance.randrange(4)
        if how == 0:
            words[at:at + 1] = []
        elif how == 1:
            words.insert(at, chance.choice(ANY_WORDS))
        elif how == 2:
            words[at:at + 1] = [chance.choice(ANY_WORDS)]
        else:
            words[at:] = []
    return words


class GrammarTest(helper.Case):

    def texts(self, seed, many, deep):
        chance = random.Random(seed)
        for number in range(many):
            start = chance.choice(("expr", "cond", "question", "question"))
            words = sentence(chance, start, chance.randrange(deep))
            if len(words) <= 150:
                yield chance, start, words

    def test_what_is_read(self):
        read = 0
        for _, start, words in self.texts(1, 1500, 14):
            text = " ".join(words)
            try:
                tree = READERS[start](text)
            except TooMuch:
                continue
            read += 1
            short = SHOWN[start](tree)
            self.same(READERS[start](short), tree)
            self.assertEqual(SHOWN[start](READERS[start](short)), short)
            self.assertLessEqual(len(short), len(text))
        self.assertGreater(read, 1000)

    def test_what_is_refused(self):
        refused = 0
        for chance, start, words in self.texts(2, 1500, 10):
            text = "  ".join(spoilt(chance, words))
            try:
                cut = words_of(text)
            except (BadText, TooMuch):
                continue
            wrong = first_wrong(start, [sort_of(word) for word in cut[:-1]])
            try:
                READERS[start](text)
                found = None
            except TooMuch:
                continue
            except BadText as error:
                refused += 1
                found = error.at
            wanted = None if wrong is None else cut[wrong][2]
            self.assertEqual(found, wanted, text)
        self.assertGreater(refused, 800)

    def test_from_the_middle(self):
        """What stands behind is left in hand, if it cannot go on with the text."""
        for chance, start, words in self.texts(3, 400, 10):
            behind = chance.choice((")", "]", "=", "end"))
            if behind == "end":
                words, behind = words, None
            text = " ".join(["select", "7"] + words + ([behind] if behind else []))
            try:
                wanted = READERS[start](" ".join(words))
                reading = Reading(words_of(text))
            except TooMuch:
                continue
            reading.at = 2
            self.same(FROM[start](reading), wanted)
            self.assertEqual(reading.look()[1], behind)
            self.assertEqual((reading.opened, reading.deep), (0, 0))
            if start == "question":
                self.assertEqual(reading.aggs, ())


if __name__ == "__main__":
    unittest.main()
