"""The forms of statements, and the statements of a block in reading order."""

from whatleaves.words import are_different, are_words, is_word


def is_block(x):
    """Whether x, any value, may be a block, as far as its statements are not looked at."""
    return isinstance(x, tuple) and len(x) > 0


def is_statement(x):
    """Whether x, any value, is of the form of a statement, as far as the statements in its blocks are not looked at."""
    if not isinstance(x, tuple) or len(x) == 0 or not isinstance(x[0], str) or x[0] not in FORMS:
        return False
    has_form = FORMS[x[0]]
    return has_form(x[1:])


def parts_of(statement):
    """The blocks in a statement, as they are written, each as (block, clause), where clause is None outside clauses."""
    word = statement[0]
    if word == "try":
        clauses = [(clause[2], clause) for clause in statement[2]]
        ends = [(block, None) for block in statement[3:] if len(block) > 0]
        return [(statement[1], None)] + clauses + ends
    if word == "with":
        return [(statement[4], None)]
    if word in ("handling", "either", "loop"):
        return [(block, None) for block in statement[1:]]
    return []


def classes_in(statement):
    """The names of classes in a statement, without those in its blocks."""
    word = statement[0]
    if word == "raise":
        return [statement[1]]
    if word == "try":
        return [name for clause in statement[2] for name in clause[0]]
    if word == "with":
        return list(statement[3])
    return []


def bound_names_in(statement):
    """The bound names that a statement reads, without those in its blocks; a clause binds its name, it reads none."""
    if statement[0] == "again":
        return statement[1:]
    if statement[0] == "raise" and statement[2:] != ("none",):
        return statement[2:]
    return ()


def walk(block):
    """Yield the statements of a block, the inner ones too, in reading order."""
    # The statements that wait are kept in a list, the next one last, so that blocks may be of any depth.
    waiting = list(block[::-1])
    while waiting:
        statement = waiting.pop()
        yield statement
        inner = [step for part, clause in parts_of(statement) for step in part]
        waiting.extend(inner[::-1])


def _is_empty(rest):
    return len(rest) == 0


def _is_raise(rest):
    if len(rest) == 2:
        return is_word(rest[0]) and (is_word(rest[1]) or rest[1] == "none")
    return len(rest) == 1 and is_word(rest[0])


def _is_again(rest):
    return len(rest) <= 1 and are_words(rest)


def _is_call(rest):
    return len(rest) >= 1 and are_words(rest)


def _is_loop(rest):
    return len(rest) == 1 and is_block(rest[0])


def _is_handling(rest):
    return len(rest) == 2 and _is_either(rest)


def _is_either(rest):
    return len(rest) >= 2 and all([is_block(part) for part in rest])


def _is_try(rest):
    if len(rest) != 4:
        return False
    block, clauses, other, last = rest
    if not is_block(block) or not all([isinstance(part, tuple) for part in (clauses, other, last)]):
        return False
    if len(clauses) == 0 and (len(last) == 0 or len(other) > 0):
        return False
    return all([_is_clause(clause) for clause in clauses])


def _is_clause(x):
    if not isinstance(x, tuple) or len(x) != 3:
        return False
    names, n, block = x
    return is_block(names) and _are_names(names) and (n is None or is_word(n)) and is_block(block)


def _is_with(rest):
    if len(rest) != 4:
        return False
    enter, leave, quiet, block = rest
    return is_word(enter) and is_word(leave) and _are_names(quiet) and is_block(block)


def _are_names(x):
    return isinstance(x, tuple) and are_words(x) and are_different(x)


# For each first word of a statement the test of what stands behind it.
FORMS = {
    "pass": _is_empty,
    "return": _is_empty,
    "break": _is_empty,
    "raise": _is_raise,
    "again": _is_again,
    "call": _is_call,
    "handling": _is_handling,
    "either": _is_either,
    "loop": _is_loop,
    "try": _is_try,
    "with": _is_with,
}
