"""Functions in the place of outside callbacks: the acts that they do, and functions that do given acts."""

from whatleaves.acts import Acts
from whatleaves.errors import NoCase, NoFunction
from whatleaves.families import own_acts
from whatleaves.functions import Function
from whatleaves.levels import Level
from whatleaves.scans import Certain
from whatleaves.solver import solved
from whatleaves.words import is_word


def acts_of(program, functions):
    """The acts of functions that are put in for callbacks; functions is a dict from words to their names."""
    for callback in sorted(list(functions)):
        _check_put_in(program, functions[callback])
    level = Level(program.classes)
    cases = [(name, (), handled) for name in list(functions.values()) for handled in (None,) + program.classes.names]
    solver = solved(program, level, Certain(level), cases)
    rows = []
    for callback, name in functions.items():
        for handled in (None,) + program.classes.names:
            rows.extend([(callback, handled, outcome) for outcome in solver.outcomes_at((name, (), handled))])
    return Acts(*rows)


def _check_put_in(program, name):
    if name not in program:
        raise NoCase("function")
    if len(program.function(name).callbacks) > 0:
        raise NoCase("given")


def told(program, name, callback, acts):
    """A function with this name that does as the acts say of the callback, and calls nothing but itself."""
    own = own_acts(program, acts)
    words = [word for function in program.functions for word in (function.name,) + function.callbacks]
    if not is_word(name) or name in words:
        raise NoFunction("name", None)
    done = {handled: [] for handled in (None,) + program.classes.names}
    for one, handled, outcome in own.rows:
        if one == callback:
            done[handled].append(outcome)
    # A class stands behind its bases in names, so that backwards each class comes to its own clause.
    clauses = tuple([((handled,), None, _block_for(name, done[handled])) for handled in program.classes.names[::-1]])
    handling = (("try", (("again",),), clauses, (), ()),)
    return Function(name, block=(("handling", handling, _block_for(name, done[None])),))


def _block_for(name, outcomes):
    """A block of the function with this name that has just these outcomes."""
    if len(outcomes) == 0:
        # A call that calls itself, and nothing else, never comes to an end.
        return (("call", name),)
    blocks = [(("return",),) if outcome == "returns" else (("raise", outcome),) for outcome in outcomes]
    return blocks[0] if len(blocks) == 1 else (("either", *blocks),)
