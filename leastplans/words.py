"""Cutting the text of a question into words."""

from leastplans.errors import BadText, TooMuch

RESERVED = (
    "all", "and", "as", "asc", "by", "count", "desc", "distinct", "exists", "from", "group",
    "having", "in", "is", "join", "left", "limit", "max", "maybe", "min", "not", "null", "on",
    "or", "order", "select", "sum", "where", "with",
)
SMALL = "abcdefghijklmnopqrstuvwxyz"
CAPITAL = "ABCDEFGHIJKLMNOPQRSTUVWXYZ"
FIGURES = "0123456789"
LONG_SIGNS = ("<>", "<=", ">=")
SHORT_SIGNS = "()[],.*+-=<>"
COUNTED_SIGNS = ("+", "-", "*")
COUNTED_WORDS = ("and", "or")
MOST_CHARACTERS = 3000
MOST_COUNTED = 40
LONGEST_NAME = 12
LONGEST_NUMBER = 9
LONGEST_TEXT = 12


def words_of(text):
    """The words of a text, each (kind, value, at), the end last."""
    if text == "" or len(text) - text.count(" ") > MOST_CHARACTERS:
        raise BadText(0)
    words = []
    at = 0
    while at < len(text):
        if text[at] == " ":
            at += 1
        else:
            kind, value, behind = word_at(text, at)
            words.append((kind, value, at))
            at = behind
    if counted(words) > MOST_COUNTED:
        raise TooMuch("signs")
    words.append(("end", None, len(text)))
    return tuple(words)


def word_at(text, at):
    """The word that begins at a place: (kind, value, place behind it)."""
    if is_run(text[at]):
        return run_at(text, at)
    if text[at] == "'":
        return text_at(text, at)
    return sign_at(text, at)


def run_at(text, at):
    behind = at
    while behind < len(text) and is_run(text[behind]):
        behind += 1
    run = text[at:behind]
    if run in RESERVED:
        return ("word", run, behind)
    if is_name(run):
        return ("name", run, behind)
    if is_number(run):
        return ("number", int(run), behind)
    raise BadText(at)


def text_at(text, at):
    second = text.find("'", at + 1, at + LONGEST_TEXT + 2)
    if second < 0:
        raise BadText(at)
    return ("text", text[at + 1:second], second + 1)


def sign_at(text, at):
    if text[at:at + 2] in LONG_SIGNS:
        return ("sign", text[at:at + 2], at + 2)
    if text[at] in SHORT_SIGNS:
        return ("sign", text[at], at + 1)
    raise BadText(at)


def is_run(character):
    return character in SMALL or character in CAPITAL or character in FIGURES or character == "_"


def is_name(run):
    """True if a string is a name that tables, columns and the like can have."""
    if run == "" or len(run) > LONGEST_NAME or run in RESERVED or run[0] not in SMALL:
        return False
    return all(one in SMALL or one in FIGURES or one == "_" for one in run)


def is_number(run):
    if any(one not in FIGURES for one in run):
        return False
    return run == "0" or run[0] != "0" and len(run) <= LONGEST_NUMBER


def counted(words):
    """How many words are of those that a text may have only so many of."""
    many = 0
    for kind, value, _ in words:
        if kind == "sign" and value in COUNTED_SIGNS or kind == "word" and value in COUNTED_WORDS:
            many += 1
    return many
