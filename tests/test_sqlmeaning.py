"""[36] meaning beside the answers of another program: sqlite, where it is there.

The language of questions is close to SQL; nulls, truths, groups and ranks are the same.
"""

import contextlib
import random
import unittest

import helper
from leastplans.checking import checked
from leastplans.kindings import outputs
from leastplans.meanings import meaning
from leastplans.ordering import alike_bags
from leastplans.questionparts import output_names
from leastplans.showing import shown_expr
from leastplans.trees import parts_of

try:
    import sqlite3
except ImportError:
    sqlite3 = None


def sql(house, question, outermost=True):
    _, withs, distinct, items, sources, where, groups, having, orders, limit = question
    text = "select " + ("distinct " if distinct else "")
    text += ", ".join(f"{shown_expr(expr)} as {name}" for expr, name in items)
    text += " from " + sql_sources(house, sources)
    if where:
        text += " where " + sql_cond(house, where)
    if groups:
        text += " group by " + ", ".join(map(shown_expr, groups))
    if having:
        text += " having " + sql_cond(house, having)
    if limit is not None or orders and outermost:
        every = [f"{name} {way}" for name, way in orders] + list(output_names(question))
        text += " order by " + ", ".join(every)
    if limit is not None:
        text += f" limit {limit}"
    return text


def sql_sources(house, sources):
    heads = {"from": "", "cross": " cross join ", "join": " join ", "left": " left join "}
    text = ""
    for how, what, alias, on in sources:
        name = what[1] if what[0] == "named" else f"({sql(house, what, False)})"
        text += f"{heads[how]}{name} {alias}" + (f" on {sql_cond(house, on)}" if on else "")
    return text


def sql_cond(house, cond):
    tag = cond[0]
    if tag == "cmp":
        return f"({shown_expr(cond[2])} {cond[1]} {shown_expr(cond[3])})"
    if tag == "null":
        return f"({shown_expr(cond[1])} is null)"
    if tag == "exists":
        where = f" where {sql_cond(house, cond[2])}" if cond[2] else ""
        return f"exists (select 1 from {sql_sources(house, cond[1])}{where})"
    if tag == "in":
        return f"({shown_expr(cond[1])} in ({sql(house, cond[2], False)}))"
    sides = [sql_cond(house, part) for part in parts_of(cond)]
    if tag == "not":
        return f"(not {sides[0]})"
    if tag == "maybe":
        return f"(coalesce({sides[0]}, 1))"
    return f"({sides[0]} {tag} {sides[1]})"


def database(house):
    base = sqlite3.connect(":memory:")
    for name in house.names():
        if house.kind_of(name) == "view":
            base.execute(f"create view {name} as {sql(house, house.question_of(name), False)}")
            continue
        columns = house.columns_of(name)
        kinds = [f"{one} {'integer' if kind == 'number' else 'text'}" for one, kind, _ in columns]
        base.execute(f"create table {name} ({', '.join(kinds)})")
        marks = ", ".join("?" for _ in columns)
        base.executemany(f"insert into {name} values ({marks})", house.rows_of_table(name))
    return base


@unittest.skipUnless(sqlite3, "sqlite is not there")
class SqlTest(helper.Case):

    def test_meaning(self):
        chance = random.Random(77)
        listed = 0
        for number, question in enumerate(helper.chance_questions(77, 400)):
            house = helper.store()
            helper.fill(house, chance, 4)
            told = checked(house, question)
            rows = meaning(house, question)
            text = sql(house, question)
            with self.subTest(number=number, text=text):
                self.assertEqual(told, outputs(house, question))
                try:
                    with contextlib.closing(database(house)) as base:
                        wanted = base.execute(text).fetchall()
                except sqlite3.OperationalError as error:
                    # some versions let no having without group by or agg
                    self.assertIn("HAVING", str(error).upper())
                    continue
                self.assertTrue(alike_bags(rows, wanted))
                if question[8] or question[9] is not None:
                    listed += 1
                    self.assertEqual(rows, wanted)
        self.assertGreater(listed, 50)


if __name__ == "__main__":
    unittest.main()
