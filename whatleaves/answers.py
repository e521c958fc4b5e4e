"""Writes what a desk answers."""

DIGITS = 64


def listed(texts):
    """Texts in a row."""
    return " ".join(texts) if len(texts) > 0 else "nothing"


def kind_text(kind):
    """A kind as KIND."""
    return "+".join(kind)


def trail_text(trail):
    """A trail as TRAIL."""
    return ".".join(trail)


def demands_text(demands):
    """A Demands: never, always, or its sets of acts."""
    if len(demands) == 0:
        return "never"
    if len(demands[0]) == 0:
        return "always"
    return " / ".join([" ".join([_act_text(row) for row in one.rows]) for one in demands.sets])


def length_text(length):
    """A greatest length, or None if there is none."""
    if length is None:
        return "endless"
    # Python itself writes no numbers of many thousands of digits.
    parts = []
    while length >= 10 ** 64:
        length, rest = divmod(length, 10 ** 64)
        parts.append(str(rest).zfill(DIGITS))
    parts.append(str(length))
    return "".join(parts[::-1])


def wraps_text(wraps):
    """The functions that are wrapped, or None if no set closes."""
    return "none" if wraps is None else " ".join(("wraps",) + wraps)


def clause_text(clause):
    """A clause as F.I.C."""
    name, i, c = clause
    return f"{name}.{i}.{c}"


def _act_text(act):
    callback, handled, outcome = act
    return ":".join((callback, handled or "-", outcome))
