"""Grammars of fronts: nodes that stand for sets of tuples of classes, none of them empty."""

from whatleaves.components import components_of


class Grammar:
    """Nodes, numbered from 0: some stand for one class, their letter, and all others for what their forms stand for.

    A form is a node, or a pair of nodes: then it stands for the tuples of the first one with those of the second one
    behind them. Nodes may lead to themselves.
    """

    def __init__(self):
        self.letters = []
        self.forms = []
        self._nodes = {}

    def letter(self, name):
        """The node of one class."""
        if name not in self._nodes:
            self._nodes[name] = self._node(name, ())
        return self._nodes[name]

    def choice(self, forms):
        """A node for a tuple of forms."""
        if len(forms) == 1 and not isinstance(forms[0], tuple):
            return forms[0]
        return self._node(None, forms)

    def later(self):
        """A node that is settled later."""
        return self._node(None, ())

    def settle(self, node, forms):
        """Let a node stand for these forms."""
        self.forms[node] = forms

    def parts_of(self, node):
        """The nodes in the forms of a node."""
        return [part for form in self.forms[node] for part in parts_in(form)]

    def _node(self, name, forms):
        self.letters.append(name)
        self.forms.append(forms)
        return len(self.forms) - 1


class Sizes:
    """How long the tuples of the nodes of a grammar can be: greatest[node], None if there is no greatest length."""

    def __init__(self, grammar):
        self.grammar = grammar
        self.greatest = [None for _ in grammar.forms]
        self._numbers = [None for _ in grammar.forms]
        self._growing = []
        components = components_of([grammar.parts_of(node) for node in range(len(grammar.forms))])
        for number, component in enumerate(components):
            for node in component:
                self._numbers[node] = number
            self._growing.append(self._is_growing(component))
            length = None if self._growing[number] else self._length_of(component)
            for node in component:
                self.greatest[node] = length

    def grows(self, node):
        """Whether the tuples of a node have others of the same node in them that are shorter."""
        return self._growing[self._numbers[node]]

    def _is_growing(self, component):
        number = self._numbers[component[0]]
        # What leads back through a pair is longer for the other part of it.
        for node in component:
            for form in self.grammar.forms[node]:
                if isinstance(form, tuple) and number in (self._numbers[form[0]], self._numbers[form[1]]):
                    return True
        return False

    def _length_of(self, component):
        """The greatest length in a component that does not grow."""
        number = self._numbers[component[0]]
        length = 1
        for node in component:
            for form in self.grammar.forms[node]:
                if isinstance(form, tuple) or self._numbers[form] != number:
                    lengths = [self.greatest[part] for part in parts_in(form)]
                    if None in lengths:
                        return None
                    length = max(length, sum(lengths))
        return length


def parts_in(form):
    """The nodes in a form."""
    return form if isinstance(form, tuple) else (form,)
