"""[16] Reading."""

import unittest

import helper
from leastplans.errors import BadText
from leastplans.exprreading import expr_from
from leastplans.questionreading import cond_from, question_from
from leastplans.reading import Reading
from leastplans.words import words_of


class ReadingTest(helper.Case):

    def fields(self, reading):
        return (reading.at, reading.opened, reading.deep, reading.aggs)

    def test_new(self):
        words = words_of("a 1")
        reading = Reading(words=words)
        self.assertEqual(list(vars(reading)), ["words", "at", "opened", "deep", "aggs"])
        self.assertIs(reading.words, words)
        self.same(self.fields(reading), (0, 0, 0, ()))

    def test_look_and_ahead(self):
        reading = Reading(words_of("select 7 'x' ("))
        self.same(reading.look(), ("word", "select"))
        self.same(reading.ahead(0), ("word", "select"))
        self.same(reading.ahead(many=1), ("number", 7))
        self.same(reading.ahead(2), ("text", "x"))
        self.same(reading.ahead(3), ("sign", "("))
        for many in (4, 5, 6, 1000):
            self.same(reading.ahead(many), ("end", None))
        self.assertEqual(reading.at, 0)
        reading.take()
        self.same(reading.ahead(1), ("text", "x"))
        self.same(reading.ahead(3), ("end", None))

    def test_take(self):
        reading = Reading(words_of("a 0 'b' , and"))
        for at, value in enumerate(("a", 0, "b", ",", "and")):
            self.assertEqual(reading.at, at)
            self.same(reading.take(), value)
        for _ in range(3):
            self.assertEqual(reading.at, 5)
            self.same(reading.look(), ("end", None))
            self.assertIsNone(reading.take())

    def test_only_the_end(self):
        reading = Reading(words_of("  "))
        self.same(reading.look(), ("end", None))
        self.same(reading.ahead(1), ("end", None))
        self.assertIsNone(reading.take())
        self.refused(BadText(2), reading.bad)
        self.refused(BadText(2), reading.take_name)
        self.refused(BadText(2), reading.expect, "(")

    def test_expect(self):
        reading = Reading(words_of("  select <= select"))
        self.refused(BadText(2), reading.expect, "<=")
        self.same(reading.expect("select"), "select")
        self.refused(BadText(9), reading.expect, "<")
        self.refused(BadText(9), reading.expect, "select")
        self.same(reading.expect(value="<="), "<=")
        self.assertEqual(reading.at, 2)

    def test_expect_looks_at_the_kind(self):
        for text, value in (("'select'", "select"), ("'('", "("), ("7", 7), ("abc", "abc"), ("'abc'", "abc")):
            reading = Reading(words_of(text))
            self.refused(BadText(0), reading.expect, value)
            self.assertEqual(reading.at, 0)
        reading = Reading(words_of(""" """))
        self.refused(BadText(1), reading.expect, None)

    def test_take_name(self):
        reading = Reading(words_of("a b"))
        self.same(reading.take_name(), "a")
        self.same(reading.take_name(), "b")
        self.refused(BadText(3), reading.take_name)
        for text in ("7", "'a'", "select", "("):
            reading = Reading(words_of(" " + text))
            self.refused(BadText(1), reading.take_name)
            self.assertEqual(reading.at, 0)

    def test_bad(self):
        reading = Reading(words_of("a   b"))
        self.refused(BadText(0), reading.bad)
        reading.at = 1
        self.refused(BadText(4), reading.bad)
        reading.take()
        self.refused(BadText(5), reading.bad)

    def test_fields_while_reading(self):
        """Fields that begin otherwise are gone on from."""
        reading = Reading(words_of("count (*) + sum (t.a) = 1 or t.a in (select min (t.b) as x from t)"))
        cond_from(reading)
        aggs = (("agg", "count", None), ("agg", "sum", ("col", "t", "a")))
        self.same(self.fields(reading)[1:], (0, 0, aggs))
        reading = Reading(words_of("- (t.a) ]"))
        reading.opened = 5
        expr_from(reading)
        self.same(self.fields(reading), (6, 5, 0, ()))
        reading = Reading(words_of("select sum (t.a) as x from t)"))
        reading.deep = 2
        reading.aggs = (("agg", "count", None),)
        question_from(reading)
        self.same(self.fields(reading)[1:], (0, 2, (("agg", "count", None),)))

    def test_aggs_are_kept_once(self):
        reading = Reading(words_of("sum (t.a) + count (*) * sum (t.a) - count (t.a)"))
        expr_from(reading)
        column = ("col", "t", "a")
        self.same(reading.aggs, (("agg", "sum", column), ("agg", "count", None), ("agg", "count", column)))

    def test_two_at_once(self):
        words = words_of("a b")
        one, other = Reading(words), Reading(words)
        one.take()
        self.same((one.look(), other.look()), (("name", "b"), ("name", "a")))


if __name__ == "__main__":
    unittest.main()
