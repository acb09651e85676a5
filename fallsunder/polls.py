"""What goods answer to terms and books that are sound, with least goods."""

from fallsunder.growing import Grower
from fallsunder.slimming import SlimSheet
from fallsunder.surveys import Survey
from fallsunder.watching import Watch


class Poll:
    """All rows `(truths of the terms as bits, results by the books)` that goods have.

    It may stop where all rows of one of the wanted lists are there.
    """

    def __init__(self, stock, terms, books, *, wanted=()):
        watch = Watch(stock, [*terms, *books], SlimSheet())
        wanted = [[("", *row) for row in rows] for rows in wanted]
        survey = Survey(stock, watch.sheet, watch.desks, (watch.term_cells, watch.owners), wanted=wanted)
        self._grower = Grower(survey)
        self.found = {key[1:]: found for key, found in survey.rows.items()}

    def good_of(self, row):
        """A least good with this row."""
        return self._grower.good_of(self.found[row][1])

    def least_of(self, rows):
        """The one of some rows that are there whose least good has the fewest nodes, None if there are none."""
        least = None
        for row in rows:
            if row in self.found and (least is None or self.found[row][0] < self.found[least][0]):
                least = row
        return least


def book_poll(books, *, wanted=()):
    """The rows of results by some books over one stock; wanted are lists of such rows."""
    return Poll(books[0].stock, [], books, wanted=[[(0, row) for row in rows] for rows in wanted])


def results_of_book(book):
    """The results there can be by a book: its leaves, and the others."""
    return [*book.leaves, "none", "two", "ring"]
