"""Things that are joined, by way of others too."""


class Unions:
    """Joins things, told by keys, two by two."""

    def __init__(self):
        self._tops = {}

    def unite(self, first, second):
        """Join two things; were they apart?"""
        tops = (self._stands_for(first), self._stands_for(second))
        if tops[0] == tops[1]:
            return False
        self._tops[tops[0]] = tops[1]
        return True

    def _stands_for(self, key):
        """The one that stands for all that are joined with this one."""
        top = key
        while top in self._tops:
            top = self._tops[top]
        while key in self._tops:
            follows = self._tops[key]
            self._tops[key] = top
            key = follows
        return top
