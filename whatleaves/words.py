"""What a word is and what an integer is."""

LONGEST = 8
RESERVED = (
    "pass", "raise", "from", "none", "again", "return", "returns", "break", "call", "handling", "else", "either", "or",
    "loop", "try", "except", "as", "finally", "with", "quiet", "class", "def",
)


def is_word(x):
    """Whether x, any value, is a word: a name that a class, a function or an error may have."""
    if not isinstance(x, str) or len(x) > LONGEST:
        return False
    return x.isascii() and x.isalpha() and x.islower() and x not in RESERVED


def are_words(xs):
    """Whether all things in a tuple or list are words."""
    return all([is_word(x) for x in xs])


def are_different(words):
    """Whether no word stands twice in a tuple or list of words."""
    return len(set(words)) == len(words)


def is_number(x):
    """Whether x, any value, is an integer that is not below 0; True and False are no integers here."""
    return isinstance(x, int) and not isinstance(x, bool) and x >= 0
