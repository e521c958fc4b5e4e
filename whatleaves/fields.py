"""Bundles: dicts from finishes to worths that are written as one integer, so that they are joined at once."""


class Fields:
    """The fields of bundles: each finish has a field of some bits, in which its worth stands; 0 if it is not there."""

    def __init__(self, width):
        self.width = width
        self.whole = (1 << width) - 1
        self._shifts = {}
        self._ordered = []
        # The lowest bit of each field.
        self._ones = 0

    def shift_of(self, finish):
        """Where the field of a finish begins; a new finish gets the next field."""
        if finish not in self._shifts:
            self._shifts[finish] = len(self._ordered) * self.width
            self._ones = self._ones | 1 << self._shifts[finish]
            self._ordered.append(finish)
        return self._shifts[finish]

    def single(self, finish, worth):
        """The bundle of one finish."""
        return worth << self.shift_of(finish)

    def bundle_of(self, worths):
        """The bundle of a dict from finishes to worths."""
        bundle = 0
        for finish, worth in worths.items():
            bundle = bundle | self.single(finish, worth)
        return bundle

    def worth_of(self, bundle, finish):
        """The worth of a finish in a bundle."""
        return bundle >> self.shift_of(finish) & self.whole

    def limited(self, bundle, worth):
        """The bundle with just what each worth has in common with this one."""
        return bundle if worth == self.whole else bundle & (worth * self._ones)

    def pairs_in(self, bundle):
        """Each finish in a bundle with its worth."""
        pairs = []
        while bundle > 0:
            lowest = (bundle & -bundle).bit_length() - 1
            k = lowest // self.width
            worth = bundle >> k * self.width & self.whole
            pairs.append((self._ordered[k], worth))
            bundle = bundle - (worth << k * self.width)
        return pairs
