"""[25] [26] [29] how rows lie, entries of indexes."""

import itertools
import random
import unittest

import helper
from leastplans.entries import entries_of, halved, stretch
from leastplans.layings import laid, laid_anew
from leastplans.ranks import rank_row


def chance_rows(chance, many):
    return [tuple(chance.choice((None, -1, 0, 1, 2)) for _ in range(3)) for _ in range(many)]


class LayingsTest(helper.Case):

    def test_laid(self):
        rows = [(1, "a"), (1, "b"), (3, "c")]
        self.every((
            ((0, "n"), (0,), [(0, "n"), (1, "a"), (1, "b"), (3, "c")]),
            ((1, "n"), (0,), [(1, "a"), (1, "b"), (1, "n"), (3, "c")]),
            ((2, "n"), (0,), [(1, "a"), (1, "b"), (2, "n"), (3, "c")]),
            ((3, "n"), (0,), [(1, "a"), (1, "b"), (3, "c"), (3, "n")]),
            ((4, "n"), (0,), [(1, "a"), (1, "b"), (3, "c"), (4, "n")]),
            ((None, "n"), (0,), [(None, "n"), (1, "a"), (1, "b"), (3, "c")]),
            ((1, "a"), (0, 1), [(1, "a"), (1, "a"), (1, "b"), (3, "c")]),
            ((1, "aa"), (0, 1), [(1, "a"), (1, "aa"), (1, "b"), (3, "c")]),
            ((1, None), (0, 1), [(1, None), (1, "a"), (1, "b"), (3, "c")]),
            ((0, "n"), (), [(1, "a"), (1, "b"), (3, "c"), (0, "n")]),
        ), lambda row, places, told: self.same(laid(rows=rows, row=row, places=places), told))
        self.same(laid(tuple(rows), (2, "n"), (0,)), [(1, "a"), (1, "b"), (2, "n"), (3, "c")])
        self.same(laid([], (1, "a"), (0,)), [(1, "a")])
        self.same(laid((), (1, "a"), ()), [(1, "a")])

    def test_laid_behind_nulls(self):
        self.same(laid([(None, 1), (None, 2), (5, 3)], (None, 9), (0,)), [(None, 1), (None, 2), (None, 9), (5, 3)])

    def test_laid_anew(self):
        rows = [(2, "a"), (1, "b"), (None, "c"), (2, "d"), (1, "e"), (None, "f")]
        self.same(laid_anew(rows=rows, places=(0,)), [(None, "c"), (None, "f"), (1, "b"), (1, "e"), (2, "a"), (2, "d")])
        self.same(laid_anew(tuple(rows), ()), rows)
        self.same(laid_anew(rows, (1,)), rows)
        self.same(laid_anew([(1, 2), (1, 1), (0, 3)], (0, 1)), [(0, 3), (1, 1), (1, 2)])
        self.same(laid_anew([(1, 2), (1, 1), (0, 3)], (1, 0)), [(1, 1), (1, 2), (0, 3)])
        self.same(laid_anew([], (0,)), [])
        self.same(laid_anew((), ()), [])

    def test_nothing_is_changed(self):
        rows = [(2, 0), (1, 0), (3, 0)]
        found = laid_anew(rows, (0,))
        self.assertEqual(rows, [(2, 0), (1, 0), (3, 0)])
        longer = laid(found, (2, 9), (0,))
        self.assertEqual(found, [(1, 0), (2, 0), (3, 0)])
        longer.append(None)
        same = laid_anew(found, ())
        self.assertIsNot(same, found)

    def test_by_chance(self):
        chance = random.Random(1)
        for _ in range(200):
            rows = chance_rows(chance, chance.randrange(8))
            places = tuple(chance.sample(range(3), chance.randrange(4)))
            found = laid_anew(rows, places)
            self.same(found, sorted(rows, key=lambda row: rank_row(row, places)))
            row = chance_rows(chance, 1)[0]
            self.same(laid(found, row, places), sorted(found + [row], key=lambda row: rank_row(row, places)))


class EntriesTest(helper.Case):

    def test_entries_of(self):
        rows = [(5, "b"), (None, "a"), (3, "b"), (5, None)]
        self.every((
            ((0,), (1, 2, 0, 3)), ((1,), (3, 1, 0, 2)), ((0, 1), (1, 2, 3, 0)), ((1, 0), (3, 1, 2, 0)), ((), (0, 1, 2, 3)),
        ), lambda places, told: self.same(entries_of(rows=rows, places=places), told))
        self.same(entries_of(tuple(rows), (0,)), (1, 2, 0, 3))
        self.same(entries_of([], (0,)), ())
        self.same(entries_of([(1,)] * 4, (0,)), (0, 1, 2, 3))

    def test_example(self):
        rows = [(5,), (None,), (3,), (5,)]
        self.same(stretch(rows, (1, 2, 0, 3), (0,), (5,)), (2, 4, 2))
        self.same(halved(rows, (1, 2, 0, 3), (0,), (5,)), (2, 2))

    def test_looks(self):
        rows = [(number,) for number in range(7)]
        entries = tuple(range(7))
        for told, looks in enumerate((3, 3, 3, 3, 3, 3, 3)):
            self.same(halved(rows=rows, entries=entries, places=(0,), told=(told,)), (told, looks))
        self.same(halved(rows, entries, (0,), (7,)), (7, 3))
        self.same(halved(rows, entries, (0,), (None,)), (0, 3))
        four = [(1,), (2,), (2,), (4,)]
        for told, pair, triple in (
            (2, (1, 3), (1, 3, 3)), (3, (3, 2), (3, 3, 2)), (4, (3, 2), (3, 4, 2)), (5, (4, 2), (4, 4, 2)),
            (1, (0, 3), (0, 1, 3)), (0, (0, 3), (0, 0, 3)),
        ):
            self.same(halved(four, (0, 1, 2, 3), (0,), (told,)), pair)
            self.same(stretch(four, (0, 1, 2, 3), (0,), (told,)), triple)

    def test_nothing_to_find(self):
        for places, told in (((), ()), ((0,), (1,)), ((0, 1), (None, "a"))):
            self.same(halved([], (), places, told), (0, 0))
            self.same(stretch(rows=[], entries=(), places=places, told=told), (0, 0, 0))

    def test_no_places(self):
        rows = [(3,), (1,), (2,)]
        self.same(halved(rows, (1, 2, 0), (), ()), (0, 2))
        self.same(stretch(rows, (1, 2, 0), (), ()), (0, 3, 2))

    def test_nulls(self):
        rows = [(None, 1), (0, 2), (None, None), (0, None)]
        entries = entries_of(rows, (0, 1))
        self.same(entries, (2, 0, 3, 1))
        self.same(stretch(rows, entries, (0,), (None,)), (0, 2, 3))
        self.same(stretch(rows, entries, (0,), (0,))[:2], (2, 4))
        self.same(stretch(rows, entries, (0, 1), (None, None))[:2], (0, 1))
        self.same(stretch(rows, entries, (0, 1), (0, None))[:2], (2, 3))
        self.same(stretch(rows, entries, (0, 1), (0, 1))[:2], (3, 3))

    def test_fewer_places_than_the_entries_have(self):
        rows = [(2, "b"), (1, "b"), (2, "a"), (1, "a")]
        entries = entries_of(rows, (0, 1))
        self.same(entries, (3, 1, 2, 0))
        self.same(stretch(rows, entries, (0,), (2,))[:2], (2, 4))
        self.same(stretch(rows, entries, (0, 1), (2, "a"))[:2], (2, 3))

    def test_by_chance(self):
        chance = random.Random(2)
        for _ in range(300):
            rows = chance_rows(chance, chance.randrange(12))
            columns = tuple(chance.sample(range(3), chance.randrange(1, 4)))
            entries = entries_of(rows, columns)
            self.same(entries, tuple(sorted(range(len(rows)), key=lambda at: (rank_row(rows[at], columns), at))))
            places = columns[:chance.randrange(len(columns) + 1)]
            told = tuple(chance.choice((None, -1, 0, 1, 2, 3)) for _ in places)
            first, behind, looks = stretch(rows, entries, places, told)
            alike = [at for at, entry in enumerate(entries) if tuple(rows[entry][place] for place in places) == told]
            self.assertEqual(list(range(first, behind)), alike)
            self.same(halved(rows, entries, places, told), (first, looks))
            self.assertLessEqual(looks, len(entries).bit_length())
            if not alike:
                below = [entry for entry in entries if rank_row(rows[entry], places) < rank_row(told, range(len(told)))]
                self.assertEqual(first, len(below))

    def test_every_number_of_looks(self):
        """low, high and mid are those of the document, step by step."""
        for many, told in itertools.product(range(20), range(-1, 21)):
            low, high, looks = 0, many, 0
            while low < high:
                mid, looks = (low + high) // 2, looks + 1
                low, high = (mid + 1, high) if mid < told else (low, mid)
            rows = [(number,) for number in range(many)]
            self.same(halved(rows, tuple(range(many)), (0,), (told,)), (low, looks))


if __name__ == "__main__":
    unittest.main()
