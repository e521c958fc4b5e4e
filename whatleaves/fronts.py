"""Fronts of errors, which may be far too long to be written out, and the errors of a run."""


class Front:
    """A tuple of one or more classes: one class, or a front and another one behind it, of any length."""

    def __init__(self, many, name, ahead, behind):
        self.many = many
        self.name = name
        self.ahead = ahead
        self.behind = behind

    def spelled(self):
        """The classes, as a tuple."""
        names = []
        waiting = [self]
        while waiting:
            front = waiting.pop()
            if front.name is not None:
                names.append(front.name)
            else:
                waiting.append(front.behind)
                waiting.append(front.ahead)
        return tuple(names)


def single(name):
    """The front of one class."""
    return Front(1, name, None, None)


def joined(ahead, behind):
    """A front with another one behind it; None is the empty front."""
    if ahead is None:
        return behind
    if behind is None:
        return ahead
    return Front(ahead.many + behind.many, None, ahead, behind)


class Thrown:
    """An error in a run of a case: its class, its front and whether its trail is open."""

    def __init__(self, name, ahead, is_open):
        self.name = name
        self.ahead = ahead
        self.is_open = is_open

    def length(self):
        """The number of classes in the front."""
        return 0 if self.ahead is None else self.ahead.many

    def spelled(self):
        """The classes in the front, as a tuple."""
        return () if self.ahead is None else self.ahead.spelled()


def new_error(name, cause):
    """A new error of this class with this cause, or None for no cause."""
    if cause is None:
        return Thrown(name, single(name), False)
    return Thrown(name, joined(single(name), cause.ahead), cause.is_open)


def given_error(name):
    """The error of this class that is handled at the call."""
    return Thrown(name, None, True)


def passed_on(error, handled):
    """An error that leaves a call, as the caller sees it, where the error handled is handled at the call."""
    if not error.is_open:
        return error
    return Thrown(error.name, joined(error.ahead, handled.ahead), handled.is_open)
