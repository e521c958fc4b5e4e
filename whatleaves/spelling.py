"""Spells what the nodes of a grammar stand for, as long as it is not too much."""

from whatleaves.digest import Digest
from whatleaves.errors import TooMany

MOST_TRAILS = 100


class Speller:
    """Spells tuples of at most so many classes.

    Only tuples are spelled that are parts of those that are asked for, and different parts give different ones. So if
    there are too many tuples anywhere, too many are asked for. Sets of tuples are integers with a bit for each tuple.
    """

    def __init__(self, grammar, most):
        self.most = most
        self.digest = Digest(grammar)
        self._lengths = self.digest.possible_lengths(most)
        # For nodes and lengths the sets; all tuples, and their bits.
        self._sets = {}
        self._words = []
        self._bits = {}

    def words_of(self, forms):
        """The tuples that these forms of the grammar stand for, by their lengths, then ascending."""
        words = []
        for length in range(1, self.most + 1):
            found = 0
            for form in forms:
                found = found | self._set_of(self.digest.form_of(form), length)
            words.extend(sorted(self._spelled(found)))
        _check(words)
        return words

    def _set_of(self, form, length):
        """The tuples of this length that a form stands for."""
        if isinstance(form, tuple):
            return self._set_of_pair(form[0], form[1], length)
        if (form, length) not in self._sets:
            for node in self._waiting_for(form, length):
                self._sets[(node, length)] = self._set_at(node, length)
        return self._sets[(form, length)]

    def _waiting_for(self, node, length):
        """The node and all others to which it leads that have tuples of this length and no set yet, in order."""
        met = {node: True}
        waiting = [node]
        while len(waiting) > 0:
            latest = waiting.pop()
            for other in self.digest.led_to[latest]:
                if other not in met and (other, length) not in self._sets and self._has_any(other, length):
                    met[other] = True
                    waiting.append(other)
        return sorted(list(met))

    def _set_at(self, node, length):
        found = 0
        if length == 1:
            for letter in self.digest.letters[node]:
                found = found | self._bit_of((letter,))
        for other in self.digest.led_to[node]:
            found = found | self._sets.get((other, length), 0)
        for ahead, behind in self.digest.pairs[node]:
            found = found | self._set_of_pair(ahead, behind, length)
        return found

    def _set_of_pair(self, ahead, behind, length):
        found = 0
        for k in range(1, length):
            if self._has_any(ahead, k) and self._has_any(behind, length - k):
                ends = self._spelled(self._set_of(behind, length - k))
                for word in self._spelled(self._set_of(ahead, k)):
                    for end in ends:
                        found = found | self._bit_of(word + end)
        return found

    def _has_any(self, node, length):
        return self._lengths[node] >> length & 1 == 1

    def _spelled(self, found):
        """The tuples in a set."""
        words = []
        while found > 0:
            k = found.bit_length() - 1
            words.append(self._words[k])
            found = found - (1 << k)
            _check(words)
        return words

    def _bit_of(self, word):
        if word not in self._bits:
            self._bits[word] = 1 << len(self._words)
            self._words.append(word)
        return self._bits[word]


def _check(words):
    if len(words) > MOST_TRAILS:
        raise TooMany("trails", MOST_TRAILS)
