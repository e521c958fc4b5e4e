"""A desk: does rows of text, and answers each with a text."""

from whatleaves.answers import clause_text, demands_text, kind_text, length_text, listed, trail_text, wraps_text
from whatleaves.bars import bars
from whatleaves.classes import Classes
from whatleaves.closing import closing
from whatleaves.errors import NoCase, NoName, NoRow
from whatleaves.idle import idle
from whatleaves.later import leaving
from whatleaves.lengths import longest
from whatleaves.lists import demands
from whatleaves.phrases import (
    check, read_call, read_call_and_acts, read_call_at, read_length, read_names, read_outcome, read_trail, read_wish)
from whatleaves.programs import Program
from whatleaves.reader import read_function, read_program
from whatleaves.shop import Shop
from whatleaves.tables import can
from whatleaves.texts import program_text
from whatleaves.trails import leaves, trails


class Desk:
    """Keeps a shop, at first with a program that has no functions."""

    def __init__(self):
        self._shop = Shop(Program(Classes.plain()))

    def say(self, row):
        """Do a row and return the answer."""
        if not isinstance(row, str) or "\n" in row:
            raise NoRow()
        first, space, rest = row.partition(" ")
        if first in TEXTS and space == " ":
            action = TEXTS[first]
            action(self._shop, rest.replace(" / ", "\n"))
            return "ok"
        words = row.split(" ")
        if words[0] not in ACTIONS:
            raise NoRow()
        action = ACTIONS[words[0]]
        return action(self._shop, words[1:])


def _program(shop, text):
    shop.take(read_program(text))


def _put(shop, text):
    shop.put(read_function(text))


def _class(shop, words):
    row = read_names(words, 2)
    shop.grow(row)
    return "ok"


def _drop(shop, words):
    check(len(words) == 1)
    name = read_names(words, 1)[0]
    shop.drop(name)
    return "ok"


def _undo(shop, words):
    check(len(words) == 0)
    return "ok" if shop.undo() else "nothing"


def _show(shop, words):
    check(len(words) == 0)
    return program_text(shop.current).replace("\n", " / ")


def _can(shop, words):
    function, given, kind, acts = read_call_and_acts(words)
    _, things, handled = _case(shop.current, function, given, kind)
    return listed(can(shop.current, acts, function, *things, handled=handled))


def _needs(shop, words):
    acts, case, outcome = _question(shop, words)
    return demands_text(demands(shop.current, acts, case, outcome))


def _bars(shop, words):
    acts, case, outcome = _question(shop, words)
    return demands_text(bars(shop.current, acts, case, outcome))


def _question(shop, words):
    """(acts, case, outcome) of a row about demands."""
    check(len(words) >= 1)
    outcome = read_outcome(words[0])
    function, given, kind, acts = read_call_and_acts(words[1:])
    return acts, _case(shop.current, function, given, kind), outcome


def _case(program, function, given, kind):
    """The case in which the one class of the kind is handled, or nothing if the kind is ()."""
    case = program.case(function, *given)
    if len(kind) > 1:
        raise NoCase("handled")
    handled = kind[0] if len(kind) == 1 else None
    return case if handled is None else program.case(function, *given, handled=handled)


def _later(shop, words):
    function, given, kind = read_call_at(words)
    handled = kind if len(kind) > 0 else None
    case = shop.current.case(function, *given, handled=handled)
    return listed([kind_text(one) for one in leaving(shop.current, case)])


def _leaves(shop, words):
    check(len(words) >= 1)
    trail = read_trail(words[0])
    function, given = read_call(words[1:])
    program = shop.current
    case = program.case(function, *given)
    is_known = all([name in program.classes for name in trail])
    return "yes" if is_known and leaves(program, case, trail) else "no"


def _trails(shop, words):
    check(len(words) >= 1)
    most = read_length(words[0])
    function, given = read_call(words[1:])
    program = shop.current
    case = program.case(function, *given)
    return listed([trail_text(trail) for trail in trails(program, case, most)])


def _longest(shop, words):
    function, given = read_call(words)
    case = shop.current.case(function, *given)
    return length_text(longest(shop.current, case))


def _close(shop, words):
    doors, allowed, made, places = read_wish(words)
    program = shop.current
    wanted = [(name, program) for name in doors] + [(name, program.classes) for name in allowed + (made,)]
    for name, group in wanted + [(name, program) for name in places]:
        if name not in group:
            raise NoName(name)
    return wraps_text(closing(program, doors, allowed, made, places)[0])


def _idle(shop, words):
    check(len(words) == 0)
    return listed([clause_text(clause) for clause in idle(shop.current)])


# What does the rows with a text, for their first words.
TEXTS = {"program": _program, "put": _put}
# What does all other rows, and answers.
ACTIONS = {
    "class": _class,
    "drop": _drop,
    "undo": _undo,
    "show": _show,
    "can": _can,
    "needs": _needs,
    "bars": _bars,
    "later": _later,
    "leaves": _leaves,
    "trails": _trails,
    "longest": _longest,
    "close": _close,
    "idle": _idle,
}
