"""Wraps functions, so that nothing but errors of allowed classes and of one other class leaves them."""

from whatleaves.functions import Function


def wrapped(program, names, allowed, made):
    """The program in which these functions let errors of class made leave in the place of all that are not allowed."""
    for name in names:
        function = program.function(name)
        block = (("try", function.block, _clauses(allowed, made), (), ()),)
        program = program.with_function(Function.made(name, function.callbacks, block))
    return program


def _clauses(allowed, made):
    taken = (("error",), None, (("raise", made),))
    return (taken,) if len(allowed) == 0 else ((allowed, None, (("again",),)), taken)
