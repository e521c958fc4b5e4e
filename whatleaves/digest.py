"""Grammars with fewer nodes."""

from whatleaves.components import components_of


class Digest:
    """A grammar in which all nodes that lead to one another without pairs are one.

    The new nodes are numbered from 0, those first to which others lead without pairs. For each there are its letters,
    the other nodes to which it leads, and its pairs.
    """

    def __init__(self, grammar):
        components = components_of([_without_pairs(forms) for forms in grammar.forms])
        self.new_nodes = [None for _ in grammar.forms]
        for number, component in enumerate(components):
            for node in component:
                self.new_nodes[node] = number
        self.letters = []
        self.led_to = []
        self.pairs = []
        for number, component in enumerate(components):
            forms = [self.form_of(form) for node in component for form in grammar.forms[node]]
            letters = [grammar.letters[node] for node in component]
            self.letters.append([letter for letter in letters if letter is not None])
            self.led_to.append(_different([form for form in forms if not isinstance(form, tuple) and form != number]))
            self.pairs.append(_different([form for form in forms if isinstance(form, tuple)]))

    def form_of(self, form):
        """A form of the grammar, with the new nodes."""
        if isinstance(form, tuple):
            return (self.new_nodes[form[0]], self.new_nodes[form[1]])
        return self.new_nodes[form]

    def possible_lengths(self, most):
        """For each node which lengths up to most its tuples can have: an integer with bit k for length k."""
        many = len(self.letters)
        found = [0 for _ in range(many)]
        joined = {}
        has_changed = True
        while has_changed:
            has_changed = False
            for node in range(many):
                lengths = self._lengths_at(node, found, joined, most)
                if lengths != found[node]:
                    found[node] = lengths
                    has_changed = True
        return found

    def _lengths_at(self, node, found, joined, most):
        lengths = 2 if len(self.letters[node]) > 0 else 0
        for other in self.led_to[node]:
            lengths = lengths | found[other]
        for ahead, behind in self.pairs[node]:
            key = (found[ahead], found[behind])
            if key not in joined:
                joined[key] = _joined_lengths(found[ahead], found[behind], most)
            lengths = lengths | joined[key]
        return lengths


def _joined_lengths(ahead, behind, most):
    shifted = [behind << k for k in range(1, most) if ahead >> k & 1 == 1]
    lengths = 0
    for one in shifted:
        lengths = lengths | one
    return lengths & ((2 << most) - 1)


def _without_pairs(forms):
    return [form for form in forms if not isinstance(form, tuple)]


def _different(forms):
    known = {form: True for form in forms}
    return list(known)
