"""Which lines of a book are narrower than others, asked of all goods, each pair at most once for a stock."""

from fallsunder.slimming import SlimSheet
from fallsunder.surveys import Survey
from fallsunder.termtext import write_plain

# rows of two answers: the first one alone is true, the second one alone
FIRST_ALONE = ("", 1, ())
SECOND_ALONE = ("", 2, ())


class Ladder:
    """The lines of the headings of a book, by the numbers of the headings."""

    def __init__(self, stock, headings):
        self._stock = stock
        self._headings = headings
        self._texts = {}

    def is_narrower(self, first, second):
        """Is the line of the first heading narrower than that of the second one?"""
        known = self._stock.memory.setdefault("narrower", {})
        key = (self._text_of(first), self._text_of(second))
        if key not in known:
            rows = self._rows_of(first, second)
            known[key] = FIRST_ALONE not in rows and SECOND_ALONE in rows
        return known[key]

    def _rows_of(self, first, second):
        """The rows of answers of two lines, as far as they are needed."""
        sheet = SlimSheet()
        cells = [sheet.cell_of(self._line_term(first), -1), sheet.cell_of(self._line_term(second), -1)]
        return Survey(self._stock, sheet, {}, (cells, []), wanted=[(FIRST_ALONE,)]).rows

    def _text_of(self, at):
        """A text that tells the line of a heading apart from other lines."""
        if at not in self._texts:
            self._texts[at] = write_plain(self._line_term(at))
        return self._texts[at]

    def _line_term(self, at):
        """The plain term that holds where all terms of the line hold."""
        names = [row[0] for row in self._headings]
        term = self._headings[at][2]
        parent = self._headings[at][1]
        while parent != "":
            above = self._headings[names.index(parent)]
            term = ("and", above[2], term)
            parent = above[1]
        return term
