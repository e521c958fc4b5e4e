"""Single rows of texts: how far in they stand, and which forms their words have."""

from whatleaves.words import are_words, is_word


def split_row(row):
    """The depth of a row (0 for no margin, None for a margin that no row has) and its words."""
    words = row.lstrip(" ")
    spaces = len(row) - len(words)
    depth = spaces // 2 if spaces % 2 == 0 else None
    return depth, words.split(" ")


def is_class_row(words):
    """Whether these are the words of a row that makes a class."""
    return words[0] == "class" and len(words) >= 3 and are_words(words[1:])


def is_def_row(words):
    """Whether these are the words of the first row of a function."""
    return words[0] == "def" and len(words) >= 2 and are_words(words[1:])


def simple_statement(words):
    """The statement without blocks that is written with these words, or None."""
    first = words[0]
    if first in ("pass", "return", "break"):
        stands = len(words) == 1
    elif first == "again":
        stands = len(words) <= 2 and are_words(words[1:])
    elif first == "call":
        stands = len(words) >= 2 and are_words(words[1:])
    elif first == "raise":
        return _raise_statement(words)
    else:
        stands = False
    return tuple(words) if stands else None


def _raise_statement(words):
    if len(words) not in (2, 4) or not is_word(words[1]):
        return None
    if len(words) == 2:
        return tuple(words)
    if words[2] != "from" or not (is_word(words[3]) or words[3] == "none"):
        return None
    return ("raise", words[1], words[3])


def is_head_row(words):
    """Whether these are the words of the first row of a statement with blocks."""
    if words[0] in ("handling", "either", "loop", "try"):
        return len(words) == 1
    if words[0] != "with" or not are_words(words[1:3]):
        return False
    return len(words) == 3 or (len(words) >= 5 and words[3] == "quiet" and are_words(words[4:]))


def is_next_row(words):
    """Whether these are the words of a row that goes on with a statement with blocks."""
    if words[0] in ("else", "or", "finally"):
        return len(words) == 1
    if words[0] != "except":
        return False
    names, n = clause_words(words)
    return len(names) >= 1 and are_words(names) and (n is None or is_word(n))


def clause_words(words):
    """The names and the bound name, or None, of the words except C .. or except C .. as N."""
    if len(words) >= 2 and words[-2] == "as":
        return tuple(words[1:-2]), words[-1]
    return tuple(words[1:]), None
