"""Reads the words of rows that are said to a desk. All functions raise NoRow where words are not of their form."""

from whatleaves.acts import Acts, is_act
from whatleaves.errors import NoRow
from whatleaves.words import are_different, are_words, is_word

MOST_DOORS = 4
MOST_LETTERS = 12
LENGTHS = ("1", "2", "3", "4", "5", "6")


def check(holds):
    """Raise NoRow if something does not hold."""
    if not holds:
        raise NoRow()


def read_names(words, least):
    """The tuple of words that are names, at least so many."""
    check(len(words) >= least and are_words(words))
    return tuple(words)


def read_call(words):
    """(function, given) of the words of a CASE."""
    names = read_names(words, 1)
    return names[0], names[1:]


def read_call_at(words):
    """(function, given, kind) of the words of a CASE@; the kind is () if there is none."""
    check(len(words) >= 1)
    if not words[-1].startswith("@"):
        return read_call(words) + ((),)
    kind = words[-1][1:].split("+")
    check(are_words(kind) and are_different(kind))
    return read_call(words[:-1]) + (tuple(kind),)


def read_call_and_acts(words):
    """(function, given, kind, acts) of the words of a CASE@ and ACTS."""
    if ";" not in words:
        return read_call_at(words) + (Acts(),)
    at = words.index(";")
    rows = [_read_act(word) for word in words[at + 1:]]
    check(len(rows) >= 1)
    return read_call_at(words[:at]) + (Acts.made(rows),)


def read_outcome(word):
    """An OUTCOME."""
    check(is_word(word) or word == "returns")
    return word


def read_trail(word):
    """The tuple of the classes of a TRAIL."""
    names = word.split(".")
    check(len(names) <= MOST_LETTERS and are_words(names))
    return tuple(names)


def read_length(word):
    """The number N of a row about trails."""
    check(word in LENGTHS)
    return int(word)


def read_wish(words):
    """(doors, allowed, made, places) of the words behind close."""
    groups = [[]]
    for word in words:
        if word == ";":
            groups.append([])
        else:
            groups[-1].append(word)
    check(len(groups) == 4)
    doors, allowed, made, places = [read_names(group, 0) for group in groups]
    check(1 <= len(doors) <= MOST_DOORS and len(made) == 1 and len(places) <= MOST_DOORS)
    check(all([are_different(names) for names in (doors, allowed, places)]))
    return doors, allowed, made[0], places


def _read_act(word):
    parts = word.split(":")
    check(len(parts) == 3)
    callback, handled, outcome = parts
    act = (callback, None if handled == "-" else handled, outcome)
    check(is_act(act))
    return act
