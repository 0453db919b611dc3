"""Raw blocks: what a question is brought to before its columns bear marks."""


class RawUnit:
    """A unit of a raw block; its source is ("table", name) or a RawBlock."""

    def __init__(self, kind, source, conds):
        self.kind = kind
        self.source = source
        self.conds = conds


class RawBlock:
    """A raw block; its conditions and expressions hold ("col", u, c) and ("agg", i)."""

    def __init__(self, units, tests, grouped, groups, aggs, having, outs, outnames, outkinds,
                 orders, limit, listed, distinct):
        self.units = units
        self.tests = tests
        self.grouped = grouped
        self.groups = groups
        self.aggs = aggs
        self.having = having
        self.outs = outs
        self.outnames = outnames
        self.outkinds = outkinds
        self.orders = orders
        self.limit = limit
        self.listed = listed
        self.distinct = distinct

    def bare(self):
        """True if the block is grouped without a list of groups."""
        return self.grouped and self.groups == ()


def is_table(source):
    """True if the source of a raw unit is a table."""
    return isinstance(source, tuple)


def with_other(raw, units, tests, having):
    """The same raw block with other units, tests and members of having."""
    return RawBlock(
        units, tests, raw.grouped, raw.groups, raw.aggs, having, raw.outs, raw.outnames,
        raw.outkinds, raw.orders, raw.limit, raw.listed, raw.distinct)
