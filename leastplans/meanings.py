"""The plain meaning of a question, by loops over rows."""

from leastplans.columnsin import aggs_in
from leastplans.factkinds import column_names
from leastplans.folding import folded
from leastplans.ordering import in_order
from leastplans.questionparts import is_grouped, output_names, placed_orders
from leastplans.scopes import Scope
from leastplans.trees import parts_of, with_parts
from leastplans.truths import both, compared, either, negated, perhaps


def value_of(expr, env):
    """The value of an expression without aggs in an environment."""
    return worth_of(expr, env, {})


def truth_of(house, cond, env):
    """The truth of a condition without aggs in an environment."""
    return truth_at(settled(Scope(house, {}), cond), env, {})


def loops(house, sources, env):
    """The environments that sources leave, beginning with env."""
    found = environments(settled_sources(Scope(house, {}), sources), env)
    return [{alias: dict(one[alias]) for alias in one} for one in found]


def meaning(house, question):
    """The rows of a question that stands by itself."""
    return rows_meant(Scope(house, {}), question, True)


def names_used(house, question):
    """The names of the house that a question and those in it name, ascending."""
    found = names_in_question(Scope(house, {}), question)
    return tuple([name for name in house.names() if name in found])


def worth_of(expr, env, folds):
    """The value of an expression; folds is a dict of its aggs to their values."""
    if expr[0] in ("num", "text"):
        return expr[1]
    if expr[0] == "col":
        return env[expr[1]][expr[2]]
    if expr[0] == "agg":
        return folds[expr]
    sides = [worth_of(part, env, folds) for part in parts_of(expr)]
    return None if None in sides else reckoned(expr[0], sides)


def reckoned(tag, sides):
    if tag == "neg":
        return -sides[0]
    left, right = sides
    if tag == "add":
        return left + right
    return left - right if tag == "sub" else left * right


def settled(scope, cond):
    """A condition, or None, with rows in the place of its questions and sources.

    They see nothing around, so their rows are the same in all environments.
    """
    if cond is None or cond[0] in ("cmp", "null"):
        return cond
    if cond[0] == "exists":
        return ("exists", settled_sources(scope, cond[1]), settled(scope, cond[2]))
    if cond[0] == "in":
        return ("in", cond[1], rows_meant(scope, cond[2], False))
    return with_parts(cond, [settled(scope, part) for part in parts_of(cond)])


def settled_sources(scope, sources):
    """Sources as quintuples: how, alias, the rows to bind, the row of nulls, settled on."""
    found = []
    for how, what, alias, on in sources:
        names, rows = rows_of_source(scope, what)
        bindings = [dict(zip(names, row)) for row in rows]
        nulls = {name: None for name in names}
        found.append((how, alias, bindings, nulls, settled(scope, on)))
    return found


def truth_at(cond, env, folds):
    """The truth of a settled condition; folds is a dict of its aggs to their values."""
    if cond[0] == "cmp":
        left = worth_of(cond[2], env, folds)
        return compared(cond[1], left, worth_of(cond[3], env, folds))
    if cond[0] == "null":
        return worth_of(cond[1], env, folds) is None
    if cond[0] == "exists":
        found = environments(cond[1], env)
        return any(is_true(cond[2], one, folds) for one in found)
    if cond[0] == "in":
        return is_among(worth_of(cond[1], env, folds), cond[2])
    sides = [truth_at(part, env, folds) for part in parts_of(cond)]
    return truth_joined(cond[0], sides)


def truth_joined(tag, sides):
    if tag == "not":
        return negated(sides[0])
    if tag == "maybe":
        return perhaps(sides[0])
    return both(sides[0], sides[1]) if tag == "and" else either(sides[0], sides[1])


def is_among(value, rows):
    """The truth of a value being among rows of one value each."""
    truth = False
    for row in rows:
        truth = either(truth, compared("=", value, row[0]))
    return truth


def is_true(cond, env, folds):
    """True if a settled condition is true, or is None."""
    return cond is None or truth_at(cond, env, folds) is True


def environments(sources, env):
    """What settled sources leave; environments may share the dicts of their rows."""
    found = [env]
    for source in sources:
        found = [longer for one in found for longer in bound(source, one)]
    return found


def bound(source, env):
    """The environments that one settled source makes of one."""
    how, alias, bindings, nulls, on = source
    longer = [{**env, alias: binding} for binding in bindings]
    found = [one for one in longer if is_true(on, one, {})]
    if how == "left" and not found:
        return [{**env, alias: nulls}]
    return found


def rows_of_source(scope, what):
    """The names of the columns of what stands in a source, and its rows."""
    if scope.is_table(what):
        names = column_names(scope.house.columns_of(what[1]))
        return (names, scope.house.rows_of_table(what[1]))
    question, told_in = scope.meant(what)
    return (output_names(question), rows_meant(told_in, question, False))


def rows_meant(scope, question, is_outermost):
    """The rows of a question."""
    _, withs, distinct, items, sources, where, _, _, orders, limit = question
    inside = scope.with_names(withs)
    envs = environments(settled_sources(inside, sources), {})
    wanted = settled(inside, where)
    kept = [env for env in envs if is_true(wanted, env, {})]
    if is_grouped(question):
        rows = part_rows(question, kept)
    else:
        rows = [row_of(items, env, {}) for env in kept]
    if distinct:
        rows = list({row: True for row in rows})
    if limit is not None or is_outermost and orders:
        rows = in_order(rows, placed_orders(question), len(items))
    return rows if limit is None else rows[:limit]


def row_of(items, env, folds):
    return tuple([worth_of(expr, env, folds) for expr, _ in items])


def part_rows(question, envs):
    """The rows of a grouped question, one for each part for which having is true."""
    _, _, _, items, _, _, groups, having, _, _ = question
    aggs = aggs_of(items, having)
    rows = []
    for part in parts_alike(groups, envs):
        env = part[0] if part else {}
        folds = {agg: fold_of(agg, part) for agg in aggs}
        if is_true(having, env, folds):
            rows.append(row_of(items, env, folds))
    return rows


def aggs_of(items, having):
    found = [agg for expr, _ in items for agg in aggs_in(expr)]
    return found + list(aggs_in(having))


def parts_alike(groups, envs):
    """The environments alike in all groups, lists in sequence of their first ones."""
    if not groups:
        return [envs]
    parts = {}
    for env in envs:
        key = tuple([worth_of(column, env, {}) for column in groups])
        parts.setdefault(key, []).append(env)
    return list(parts.values())


def fold_of(agg, envs):
    _, fn, column = agg
    if column is None:
        return len(envs)
    return folded(fn, [worth_of(column, env, {}) for env in envs])


def names_in_question(scope, question):
    """The names that a question and those in it name, but for those told by with."""
    _, withs, _, _, sources, where, _, having, _, _ = question
    found = []
    inside = scope
    for name, told in withs:
        found.extend(names_in_question(inside, told))
        inside = inside.with_name(name, told)
    found.extend(names_in_sources(inside, sources))
    found.extend(names_in_cond(inside, where))
    found.extend(names_in_cond(inside, having))
    return found


def names_in_sources(scope, sources):
    found = []
    for _, what, _, on in sources:
        if what[0] == "question":
            found.extend(names_in_question(scope, what))
        elif what[1] not in scope.told:
            found.append(what[1])
        found.extend(names_in_cond(scope, on))
    return found


def names_in_cond(scope, cond):
    """The same of a condition, or None."""
    if cond is None:
        return []
    if cond[0] == "exists":
        return names_in_sources(scope, cond[1]) + names_in_cond(scope, cond[2])
    if cond[0] == "in":
        return names_in_question(scope, cond[2])
    return [name for part in parts_of(cond) for name in names_in_cond(scope, part)]
