"""What the tests share: errors with their fields, houses, and questions made by chance."""

import random
import unittest

from leastplans import errors
from leastplans.blocks import Block, Unit, block_of
from leastplans.houses import House
from leastplans.putting import put_in
from leastplans.questionreading import read_cond, read_question
from leastplans.raising import raw_of
from leastplans.raws import RawBlock, RawUnit
from leastplans.trees import rebuilt
from leastplans.views import make_view

FIELDS = {
    errors.BadText: ("at",), errors.TooMuch: ("what",),
    errors.NoName: ("name",), errors.TwiceNamed: ("name",),
    errors.BadKind: ("place",), errors.BadPlace: ("what",),
    errors.BadRow: ("why",), errors.BadFact: ("why",),
    errors.FactBroken: ("table", "fact"), errors.InUse: ("name",),
    errors.BadPlan: ("path", "why"), errors.BadPlanText: ("line",), errors.BadPage: ("size",),
}
# values of every odd kind: none of them is a table, a row, a fact or a number
ODD_VALUES = (
    None, True, False, 0, 1, -1, 10 ** 59, "", "x", "rows", (), (None,), ((),), [], [1], ["rows", 1],
    ("rows",), (("rows", 1),), ("x", "y", "z", "u"), ((((("a",),),),),),
)


class Case(unittest.TestCase):
    """A test case that looks at errors field by field, and at the kinds of results."""

    def refused(self, error, call, *told, **by_name):
        """call(*told) raises just this error: class and fields."""
        with self.assertRaises(type(error)) as caught:
            call(*told, **by_name)
        self.assertIs(type(caught.exception), type(error))
        for field in FIELDS[type(error)]:
            self.same(getattr(caught.exception, field), getattr(error, field))

    def same(self, one, other):
        """Equal, and of the same kinds throughout: True is not 1, a list is no tuple."""
        self.assertEqual(kinds(one), kinds(other))

    def every(self, cases, check):
        """check(*case), each case in a test of its own."""
        for case in cases:
            with self.subTest(case=case):
                check(*case)


def kinds(value):
    """A value with its kind at each place."""
    if isinstance(value, (tuple, list)):
        return (type(value).__name__, [kinds(one) for one in value])
    if isinstance(value, dict):
        return ("dict", [(kinds(key), kinds(value[key])) for key in value])
    if isinstance(value, (RawBlock, RawUnit, Block, Unit)):
        return (type(value).__name__, kinds(vars(value)))
    return (type(value).__name__, value)


def outcome(call, *told):
    """What a call returns, or its error: class name and fields."""
    try:
        return ("returned", kinds(call(*told)))
    except errors.PlanError as error:
        fields = [kinds(getattr(error, field)) for field in FIELDS[type(error)]]
        return (type(error).__name__, fields)


def block(house, text):
    return block_of(house, read_question(text))


def raw(house, text, outermost=True):
    return raw_of(house, put_in(house, read_question(text)), outermost)


def col(u, c):
    return ("col", u, c)


def mark(m):
    return ("mark", m)


def over(text):
    """A condition over columns: u0.c3 is col(0, 3)."""
    def change(one):
        return col(int(one[1][1:]), int(one[2][1:])) if one[0] == "col" else one
    return rebuilt(read_cond(text), change)


def over_marks(text):
    """A condition over marks: m.m3 is mark(3)."""
    def change(one):
        return mark(int(one[2][1:])) if one[0] == "col" else one
    return rebuilt(read_cond(text), change)


def units_raw(*kinds_told):
    """Units over the table t, each told as its kind or as (kind, conds)."""
    found = []
    for told in kinds_told:
        kind, conds = (told, ()) if isinstance(told, str) else told
        found.append(RawUnit(kind, ("table", "t"), conds))
    return tuple(found)


def raw_block(units, **more):
    """A RawBlock with these units, and the fields that are told; the others are as of nothing."""
    told = {
        "tests": (), "grouped": False, "groups": (), "aggs": (), "having": (), "outs": (),
        "outnames": (), "outkinds": (), "orders": (), "limit": None, "listed": False,
        "distinct": False, **more,
    }
    return RawBlock(units=units, **told)


def block_in(inner, kind="core", conds=()):
    """A unit whose source is a raw block."""
    return RawUnit(kind, inner, conds)


def number_columns(names, free):
    return tuple((name, "number", name in free) for name in names)


def shop(rows=False):
    """The house SHOP of the document."""
    house = House()
    facts = (("rows", 1000), ("dist", "a", 10))
    house.add_table("t", number_columns("ab", "b"), facts)
    house.add_table("s", number_columns("ac", "c"), facts)
    if rows:
        for row in ((1, 5), (1, 7), (2, None)):
            house.put("t", row)
        for row in ((1, 0), (1, 0), (3, 0)):
            house.put("s", row)
    return house


def store():
    """A house with columns of both kinds: tables t, s, p, and the view v."""
    house = House()
    rows = ("rows", 100)
    house.add_table("t", (("a", "number", False), ("b", "number", True), ("x", "text", True)), (rows,))
    house.add_table("s", (("a", "number", True), ("c", "number", True), ("y", "text", False)), (rows,))
    house.add_table("p", (("k", "number", False),), (rows, ("key", ("k",))))
    make_view(house, "v", "select t.a, t.x as w from t where t.b > 0")
    return house


def fill(house, chance, many):
    """Puts rows by chance into the tables of a house."""
    for table in ("t", "s", "p"):
        for number in range(chance.randrange(many + 1)):
            row = []
            for name, kind, free in house.columns_of(table):
                if name == "k":
                    row.append(number)
                elif free and chance.random() < 0.3:
                    row.append(None)
                else:
                    row.append(chance.choice((-1, 0, 1, 2) if kind == "number" else ("", "a", "b")))
            house.put(table, tuple(row))


class Questions:
    """Makes texts of questions over store(), by chance; most of them are let."""

    TABLES = {
        "t": (("a", "number"), ("b", "number"), ("x", "text")),
        "s": (("a", "number"), ("c", "number"), ("y", "text")),
        "p": (("k", "number"),),
        "v": (("a", "number"), ("w", "text")),
    }

    def __init__(self, seed):
        self.chance = random.Random(seed)
        self.number = 0

    def new(self, letter):
        self.number += 1
        return f"{letter}{self.number}"

    def maybe(self, part):
        return self.chance.random() < part

    def column(self, seen, kind):
        fitting = [f"{alias}.{name}" for alias, columns in seen for name, one in columns if one == kind]
        return self.chance.choice(fitting) if fitting else None

    def expr(self, seen, kind, deep=2):
        """An expression over seen columns."""
        if deep and kind == "number" and self.maybe(0.3):
            sign = self.chance.choice("+-*")
            left, right = self.expr(seen, kind, deep - 1), self.expr(seen, kind, deep - 1)
            return self.chance.choice((f"{left} {sign} {right}", f"({left} {sign} {right})", f"- {left}"))
        column = self.column(seen, kind)
        if column and self.maybe(0.8):
            return column
        return str(self.chance.randrange(3)) if kind == "number" else self.chance.choice(("''", "'a'", "'b'"))

    def cond(self, seen, deep=2):
        """A condition without exists and in."""
        if deep and self.maybe(0.5):
            left, right = self.cond(seen, deep - 1), self.cond(seen, deep - 1)
            return self.chance.choice((
                f"[{left} and {right}]", f"[{left} or {right}]", f"not [{left}]", f"maybe [{left}]"))
        kind = self.chance.choice(("number", "number", "text"))
        left = self.expr(seen, kind)
        if self.maybe(0.2):
            return f"{left} is {self.chance.choice(('', 'not '))}null"
        op = self.chance.choice(("=", "=", "<>", "<", "<=", ">", ">="))
        return f"{left} {op} {self.expr(seen, kind)}"

    def member(self, seen, deep):
        """A member of a where."""
        if deep == 0 or self.maybe(0.5):
            return self.cond(seen)
        if self.maybe(0.5):
            kind = self.chance.choice(("number", "text"))
            text, _ = self.question(deep - 1, kind)
            return f"{self.expr(seen, kind)} {self.chance.choice(('', 'not '))}in ({text})"
        text, own = self.sources(deep - 1)
        both = [(alias, columns) for alias, columns in seen if alias not in dict(own)] + own
        inner = self.cond(both)
        if deep > 1 and self.maybe(0.4):
            inner = f"{inner} and {self.member(own, deep - 1)}"
        return f"{self.chance.choice(('', 'not '))}exists (from {text} where {inner})"

    def sources(self, deep):
        """The text of a list of sources, and what it lets be seen."""
        text, seen = self.source(deep)
        seen = [seen]
        while len(seen) < 3 and self.maybe(0.4):
            how = self.chance.choice((", ", " join ", " left join "))
            more, one = self.source(deep)
            seen.append(one)
            text += how + more
            if how != ", ":
                text += f" on {self.cond(seen)}"
        return text, seen

    def source(self, deep):
        alias = self.new("u")
        if deep and self.maybe(0.25):
            text, outs = self.question(deep - 1)
            return f"({text}) {alias}", (alias, outs)
        name = self.chance.choice("ttsspv")
        return f"{name} {alias}", (alias, self.TABLES[name])

    def question(self, deep, only=None, listed=0.2):
        """The text of a question and its outputs; with one output alone, of the kind only."""
        body, seen = self.sources(deep)
        if self.maybe(0.7):
            wheres = [self.member(seen, deep) for _ in range(self.chance.choice((1, 1, 2)))]
            body += " where " + " and ".join(wheres)
        make = self.grouped if self.maybe(0.35) else self.plain
        items, outs, tail = make(seen, [only] if only else self.chance.choices(
            ("number", "text"), k=self.chance.choice((1, 2, 3))))
        head = "select distinct" if self.maybe(0.2) else "select"
        text = f"{head} {items} from {body}{tail}"
        if self.maybe(listed):
            names = self.chance.sample([name for name, _ in outs], self.chance.randrange(1, len(outs) + 1))
            ways = [self.chance.choice(("", " asc", " desc")) for _ in names]
            text += " order by " + ", ".join(map("".join, zip(names, ways)))
        if self.maybe(listed):
            text += f" limit {self.chance.randrange(5)}"
        return text, outs

    def plain(self, seen, wanted):
        outs = [(self.new("o"), kind) for kind in wanted]
        items = [f"{self.expr(seen, kind)} as {name}" for name, kind in outs]
        return ", ".join(items), outs, ""

    def agg(self, seen, kind):
        column = self.column(seen, kind)
        if kind == "text":
            return column and f"{self.chance.choice(('min', 'max'))} ({column})"
        other = self.column(seen, self.chance.choice(("number", "text")))
        choices = ["count (*)"]
        if other:
            choices.append(f"count ({other})")
        if column:
            choices += [f"{fn} ({column})" for fn in ("sum", "min", "max")]
        return self.chance.choice(choices)

    def grouped(self, seen, wanted):
        every = [(f"{alias}.{name}", kind) for alias, columns in seen for name, kind in columns]
        groups = self.chance.sample(every, min(self.chance.randrange(3), len(every)))
        outs, items = [], []
        for kind in wanted:
            fitting = [name for name, one in groups if one == kind]
            agg = self.agg(seen, kind) or "'b'"
            expr = self.chance.choice(fitting) if fitting and self.maybe(0.5) else agg
            outs.append((self.new("o"), kind))
            items.append(f"{expr} as {outs[-1][0]}")
        tail = " group by " + ", ".join(name for name, _ in groups) if groups else ""
        if self.maybe(0.3):
            tail += f" having {self.agg(seen, 'number')} {self.chance.choice(('=', '<', '>='))} 1"
        return ", ".join(items), outs, tail


def chance_questions(seed, many, deep=2):
    """Trees of questions over store(), as they are read."""
    maker = Questions(seed)
    found = []
    while len(found) < many:
        text, _ = maker.question(deep)
        try:
            found.append(read_question(text))
        except errors.TooMuch:
            pass
        except errors.BadText as error:
            raise AssertionError(text[error.at:] + " of " + text)
    return found


class JoinQuestions(Questions):
    """Questions with more equalities, and numbers told, than others."""

    def cond(self, seen, deep=2):
        if self.maybe(0.4):
            return super().cond(seen, deep)
        kind = self.chance.choice(("number", "number", "text"))
        left, right = self.column(seen, kind), self.column(seen, kind)
        if left is None or self.maybe(0.25):
            told = self.chance.choice(("0", "1") if kind == "number" else ("'a'", "''"))
            return f"{left or told} = {told}" if self.maybe(0.5) else f"{told} = {left or told}"
        return " and ".join([f"{left} = {right}"] + ([super().cond(seen, 0)] if self.maybe(0.2) else []))


def join_questions(seed, many):
    """The same of JoinQuestions."""
    maker = JoinQuestions(seed)
    found = []
    while len(found) < many:
        try:
            found.append(read_question(maker.question(2, listed=0.3)[0]))
        except errors.TooMuch:
            pass
    return found


def tell_facts(house, chance):
    """Facts and indexes by chance for the tables of a house like store()."""
    for table in ("t", "s", "p"):
        columns = house.columns_of(table)
        names = [name for name, _, _ in columns]
        facts = [("rows", chance.choice((0, 1, 2, 3, 4, 6, 9)))]
        for _ in range(chance.randrange(4)):
            some = tuple(chance.sample(names, chance.randrange(1, len(names) + 1)))
            facts.append(chance.choice((("fan", some, chance.choice((1, 2, 3))),
                                        ("dist", some[0], chance.choice((1, 2, 3))))))
        bound = tuple(name for name, _, free in columns if not free)
        if chance.random() < 0.5:
            facts.append(("key", bound))
        if chance.random() < 0.5:
            facts.append(("lies", tuple(chance.sample(names, chance.randrange(1, len(names) + 1)))))
        chance.shuffle(facts)
        house.retell(table, tuple(facts))
        for at in range(chance.randrange(3)):
            house.add_index(table, f"ix{at}", tuple(chance.sample(names, chance.randrange(1, min(3, len(names)) + 1))))


def chance_blocks(seed, many):
    """Pairs (house, block) of blocks by chance, inner ones too, with facts and indexes by chance."""
    chance = random.Random(seed)
    found = []
    for question in chance_questions(seed, many) + join_questions(seed, many):
        house = store()
        tell_facts(house, chance)
        try:
            waiting = [block_of(house, question)]
        except errors.TooMuch:
            continue
        while waiting:
            one = waiting.pop()
            found.append((house, one))
            waiting.extend(unit.source for unit in one.units if isinstance(unit.source, Block))
    return found


def put_let(house, chance, many):
    """Puts rows by chance, as far as the facts let them."""
    for table in ("t", "s", "p"):
        for number in range(many):
            row = []
            for name, kind, free in house.columns_of(table):
                if free and chance.random() < 0.2:
                    row.append(None)
                else:
                    row.append(chance.choice((0, 1, 2) if kind == "number" else ("", "a", "b")))
            try:
                house.put(table, tuple(row))
            except errors.FactBroken:
                pass
