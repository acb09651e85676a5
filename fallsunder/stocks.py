"""Stocks: which goods there can be."""

from fallsunder.checks import is_list, is_listing, is_number
from fallsunder.errors import BadName, BadStock, Twice, Unknown

RESERVED = ("any", "none", "mix", "form", "state", "over", "from", "parts", "some", "each", "main", "falls",
            "not", "and", "or", "two", "ring", "open")
LETTERS = "abcdefghijklmnopqrstuvwxyz"
LONGEST_NAME = 12
MOST_STUFFS = 5
MOST_STATES = 4
MOST_LANDS = 4
MOST_FORMS = 6
MOST_PARTS = 4


def is_name(thing):
    """Is it a name: a string of 1 to 12 letters that is no reserved word?"""
    if not isinstance(thing, str) or not 1 <= len(thing) <= LONGEST_NAME:
        return False
    return all([letter in LETTERS for letter in thing]) and thing not in RESERVED


class Stock:
    """The stuffs, states, lands and forms of which goods are told."""

    def __init__(self, stuffs, states, lands, forms):
        check_parts(stuffs, states, lands, forms)
        check_names([*stuffs, *states, *lands, *[row[0] for row in forms]])
        check_takes(forms)
        self.stuffs = tuple(stuffs)
        self.states = tuple(states)
        self.lands = tuple(lands)
        self.forms = tuple([(row[0], row[1], row[2], tuple(row[3])) for row in forms])
        self._rows = {row[0]: (row[1], row[2], row[3]) for row in self.forms}
        # what other modules have found out of the stock and need again
        self.memory = {}
        self._names = (*self.stuffs, *self.states, *self.lands, *[row[0] for row in self.forms])

    def __getitem__(self, at):
        if not isinstance(at, str) or at not in self._rows:
            raise Unknown(at)
        return self._rows[at]

    def __contains__(self, x):
        return isinstance(x, str) and x in self._names

    def __iter__(self):
        return iter(self._names)

    def __eq__(self, other):
        if not isinstance(other, Stock):
            return False
        if self.stuffs != other.stuffs or self.states != other.states:
            return False
        return self.lands == other.lands and self.forms == other.forms

    def usable(self):
        """The forms of which there is a good, in the order of the stock."""
        found = {"mix": True}
        grown = True
        while grown:
            fresh = [row[0] for row in self.forms if row[0] not in found and any([k in found for k in row[3]])]
            found.update({name: True for name in fresh})
            grown = fresh != []
        return tuple([row[0] for row in self.forms if row[0] in found])


def check_parts(stuffs, states, lands, forms):
    """Each part is a list with as many entries as it may have, those of the forms are rows."""
    if not is_listing(stuffs, 1, MOST_STUFFS):
        raise BadStock("stuffs")
    if not is_listing(states, 1, MOST_STATES):
        raise BadStock("states")
    if not is_listing(lands, 1, MOST_LANDS):
        raise BadStock("lands")
    if not is_listing(forms, 1, MOST_FORMS) or not all([is_form_row(row) for row in forms]):
        raise BadStock("forms")


def is_form_row(row):
    """Is it a list of a name, two counts of parts, and a list of what is taken?"""
    if not is_listing(row, 4, 4) or not is_number(row[1]) or not is_number(row[2]):
        return False
    return 1 <= row[1] <= row[2] <= MOST_PARTS and is_list(row[3]) and len(row[3]) > 0


def check_names(names):
    """All are names, and all are different."""
    for name in names:
        if not is_name(name):
            raise BadName(name)
    for number, name in enumerate(names):
        if name in names[:number]:
            raise Twice(name)


def check_takes(forms):
    """Each form takes mixes and forms of the stock, none of them twice."""
    roots = ["mix", *[row[0] for row in forms]]
    for row in forms:
        for number, root in enumerate(row[3]):
            if root not in roots:
                raise Unknown(root)
            if root in row[3][:number]:
                raise Twice(root)
