"""The short text of a tree.

A tree is taken apart piece by piece: a piece is a word, or a tree that is still to be taken apart.
So trees may be as deep as they like.
"""

PRODUCTS = ("add", "sub", "mul")
ANDS = ("or", "and")
# the sign of a tree with two sides, and what stands in brackets on its left and right side
TWO_SIDED = {
    "add": ("+", (), ("add", "sub")),
    "sub": ("-", (), ("add", "sub")),
    "mul": ("*", ("add", "sub"), ("add", "sub", "mul")),
    "and": ("and", ("or",), ("or", "and")),
    "or": ("or", (), ("or",)),
}
SOURCE_HEADS = {"from": ("from",), "cross": (",",), "join": ("join",), "left": ("left", "join")}
CLOSE_BEHIND = ("(", "[", ".")
CLOSE_AHEAD = (")", "]", ".", ",")


def shown(question):
    """The short text of a question."""
    return spaced(words_shown(question))


def shown_cond(cond):
    """The short text of a condition."""
    return spaced(words_shown(cond))


def shown_expr(expr):
    """The short text of an expression."""
    return spaced(words_shown(expr))


def spaced(words):
    """The text of words, with spaces between them where they are due."""
    text = words[0]
    for at in range(1, len(words)):
        if words[at - 1] not in CLOSE_BEHIND and words[at] not in CLOSE_AHEAD:
            text += " "
        text += words[at]
    return text


def words_shown(tree):
    words = []
    waiting = [tree]
    while waiting:
        piece = waiting.pop()
        if isinstance(piece, str):
            words.append(piece)
        else:
            waiting.extend(pieces_of(piece)[::-1])
    return words


def pieces_of(tree):
    """The pieces of a tree, a list from left to right."""
    if tree[0] in TWO_SIDED:
        return two_sided_pieces(tree)
    take_apart = PIECES[tree[0]]
    return take_apart(tree)


def two_sided_pieces(tree):
    tag, left, right = tree
    sign, left_tags, right_tags = TWO_SIDED[tag]
    return bracketed(left, left_tags) + [sign] + bracketed(right, right_tags)


def bracketed(tree, tags):
    """A side of a tree, in brackets if it is one of these."""
    if tree[0] not in tags:
        return [tree]
    if tree[0] in PRODUCTS:
        return ["(", tree, ")"]
    return ["[", tree, "]"]


def num_pieces(tree):
    return [str(tree[1])]


def text_pieces(tree):
    return ["'" + tree[1] + "'"]


def col_pieces(tree):
    return [tree[1], ".", tree[2]]


def agg_pieces(tree):
    return [tree[1], "(", "*" if tree[2] is None else tree[2], ")"]


def neg_pieces(tree):
    return ["-"] + bracketed(tree[1], PRODUCTS)


def cmp_pieces(tree):
    return [tree[2], tree[1], tree[3]]


def null_pieces(tree):
    return [tree[1], "is", "null"]


def in_pieces(tree):
    return [tree[1], "in", "(", tree[2], ")"]


def not_pieces(tree):
    below = tree[1]
    if below[0] == "null":
        return [below[1], "is", "not", "null"]
    if below[0] == "in":
        return [below[1], "not", "in", "(", below[2], ")"]
    return ["not"] + bracketed(below, ANDS)


def maybe_pieces(tree):
    return ["maybe"] + bracketed(tree[1], ANDS)


def exists_pieces(tree):
    return ["exists", "("] + sources_pieces(tree[1]) + clause_pieces("where", tree[2]) + [")"]


def question_pieces(tree):
    _, withs, distinct, items, sources, where, groups, having, orders, limit = tree
    return (
        list_pieces(["with"], [[name, "as", "(", inner, ")"] for name, inner in withs])
        + ["select"] + (["distinct"] if distinct else [])
        + list_pieces([], [item_pieces(expr, name) for expr, name in items])
        + sources_pieces(sources)
        + clause_pieces("where", where)
        + list_pieces(["group", "by"], [[column] for column in groups])
        + clause_pieces("having", having)
        + list_pieces(["order", "by"], [order_pieces(name, way) for name, way in orders])
        + ([] if limit is None else ["limit", str(limit)])
    )


def list_pieces(heads, things):
    """Heads, then the pieces of things, parted by commas; nothing if there are no things."""
    pieces = []
    for thing in things:
        pieces.extend([","] if pieces else heads)
        pieces.extend(thing)
    return pieces


def clause_pieces(head, cond):
    return [] if cond is None else [head, cond]


def item_pieces(expr, name):
    if expr[0] == "col" and expr[2] == name:
        return [expr]
    return [expr, "as", name]


def order_pieces(name, way):
    return [name] if way == "asc" else [name, way]


def sources_pieces(sources):
    pieces = []
    for how, what, alias, on in sources:
        pieces.extend(list(SOURCE_HEADS[how]))
        pieces.extend(source_pieces(what, alias))
        pieces.extend(clause_pieces("on", on))
    return pieces


def source_pieces(what, alias):
    if what[0] == "question":
        return ["(", what, ")", alias]
    return [alias] if what[1] == alias else [what[1], alias]


PIECES = {
    "num": num_pieces, "text": text_pieces, "col": col_pieces, "agg": agg_pieces,
    "neg": neg_pieces, "cmp": cmp_pieces, "null": null_pieces, "in": in_pieces,
    "not": not_pieces, "maybe": maybe_pieces, "exists": exists_pieces,
    "question": question_pieces,
}
