"""Programs and functions as texts."""

MARGIN = "  "


def program_text(program):
    """The rows of a program, joined by newlines."""
    rows = [" ".join(("class",) + row) for row in program.classes.rows]
    for function in program.functions:
        rows.extend(_function_rows(function))
    return "\n".join(rows)


def function_text(function):
    """The rows of a function, joined by newlines."""
    return "\n".join(_function_rows(function))


def _function_rows(function):
    head = " ".join(("def", function.name) + function.callbacks)
    return [head] + _block_rows(function.block, MARGIN)


def _block_rows(block, margin):
    rows = []
    for statement in block:
        for row, inner in _sections(statement):
            rows.append(margin + row)
            rows.extend(_block_rows(inner, margin + MARGIN))
    return rows


def _sections(statement):
    """The rows that stand at the place of a statement, each with the block behind it, () for none."""
    word = statement[0]
    if word == "try":
        return _try_sections(statement)
    if word == "with":
        return [(_with_row(statement), statement[4])]
    if word == "loop":
        return [("loop", statement[1])]
    if word == "handling":
        return [("handling", statement[1]), ("else", statement[2])]
    if word == "either":
        return [("either", statement[1])] + [("or", block) for block in statement[2:]]
    if word == "raise" and len(statement) == 3:
        return [(f"raise {statement[1]} from {statement[2]}", ())]
    return [(" ".join(statement), ())]


def _try_sections(statement):
    _, first, clauses, other, last = statement
    sections = [("try", first)]
    for names, n, block in clauses:
        binding = () if n is None else ("as", n)
        sections.append((" ".join(("except",) + names + binding), block))
    if len(other) > 0:
        sections.append(("else", other))
    if len(last) > 0:
        sections.append(("finally", last))
    return sections


def _with_row(statement):
    enter, leave, quiet = statement[1:4]
    words = ("with", enter, leave)
    if len(quiet) > 0:
        words = words + ("quiet",) + quiet
    return " ".join(words)
