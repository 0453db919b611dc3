"""Turnings of raw blocks, which change no meaning."""

from leastplans.columnsin import aggs_in, columns_in
from leastplans.merging import can_merge, each_once, merged
from leastplans.raws import RawBlock, RawUnit, with_other
from leastplans.strictness import never_on_nulls


def by_turns(raw):
    """The block with left units made core and units merged, as far as it goes."""
    found = with_other(raw, raw.units, raw.tests, raw.having)
    while True:
        strict = first_strict(found)
        fitting = first_fitting(found)
        if strict is not None:
            found = made_core(found, strict)
        elif fitting is not None:
            found = merged(found, fitting)
        else:
            return found


def first_strict(raw):
    """The first left unit that some test does not let be without a row, or None."""
    for at, unit in enumerate(raw.units):
        if unit.kind == "left" and any(never_on_nulls(test, at) for test in raw.tests):
            return at
    return None


def first_fitting(raw):
    """The first unit that can be merged, or None."""
    for at in range(len(raw.units)):
        if can_merge(raw, at):
            return at
    return None


def made_core(raw, at):
    """The block with a left unit made core."""
    unit = raw.units[at]
    units = raw.units[:at] + (RawUnit("core", unit.source, ()),) + raw.units[at + 1:]
    return with_other(raw, units, raw.tests + unit.conds, raw.having)


def distinct_turned(raw):
    """The block, not distinct."""
    if not raw.distinct:
        return with_other(raw, raw.units, raw.tests, raw.having)
    if not raw.grouped and all(out[0] == "col" for out in raw.outs):
        return grouped_by(raw, raw.units, raw.tests, each_once(raw.outs), raw.outs)
    inner = RawBlock(
        raw.units, raw.tests, raw.grouped, raw.groups, raw.aggs, raw.having, raw.outs,
        raw.outnames, raw.outkinds, (), None, False, False)
    columns = tuple([("col", 0, place) for place in range(len(raw.outs))])
    return grouped_by(raw, (RawUnit("core", inner, ()),), (), columns, columns)


def grouped_by(raw, units, tests, groups, outs):
    """A block with the outputs and orders of raw, grouped, without aggs."""
    return RawBlock(
        units, tests, True, groups, (), (), outs, raw.outnames, raw.outkinds, raw.orders,
        raw.limit, raw.listed, False)


def having_moved(raw):
    """The block with what having tells of single rows among the tests."""
    if not raw.grouped:
        return with_other(raw, raw.units, raw.tests, raw.having)
    told = [(member, is_of_rows(member)) for member in raw.having]
    tests = tuple([member for member, of_rows in told if of_rows])
    having = tuple([member for member, of_rows in told if not of_rows])
    return with_other(raw, raw.units, raw.tests + tests, having)


def is_of_rows(cond):
    """True for a condition with a column and without an agg."""
    return columns_in(cond) != () and aggs_in(cond) == ()
