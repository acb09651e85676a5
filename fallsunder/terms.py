"""Terms: what is true or false of a good."""

from fallsunder.answering import answers_of
from fallsunder.errors import BadTerm
from fallsunder.sheets import Sheet
from fallsunder.termtree import bad_term, check_asked, headings_in, look_of, names_in, term_nodes


class Term:
    """A term, made of a plain one."""

    def __init__(self, plain):
        place = bad_term(plain)
        if place is not None:
            raise BadTerm(place)
        self.plain = plain
        self._sheet = None

    @property
    def size(self):
        """The number of its nodes."""
        return len(term_nodes(self.plain))

    @property
    def look(self):
        """The greatest number of part signs that stand above one another in it."""
        return look_of(self.plain)

    @property
    def names(self):
        """The names of forms, states and stuffs in it, in the order of the walk, each once."""
        return tuple(names_in(self.plain))

    @property
    def falls(self):
        """The headings that it names, in the order of the walk, each once."""
        return tuple(headings_in(self.plain))

    def __invert__(self):
        return Term(("not", self.plain))

    def __and__(self, other):
        return Term(("and", self.plain, other.plain))

    def __or__(self, other):
        return Term(("or", self.plain, other.plain))

    def __eq__(self, other):
        return isinstance(other, Term) and self.plain == other.plain

    def __call__(self, good):
        check_asked(good.stock, self.plain)
        if self._sheet is None:
            sheet = Sheet()
            sheet.cell_of(self.plain, -1)
            self._sheet = sheet
        values, _ = answers_of(self._sheet, {}, good)
        return values[len(values) - 1] == 1
