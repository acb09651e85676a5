"""The rows of answers that goods of a stock give to watchers."""

from fallsunder.checks import is_number_of
from fallsunder.errors import NoRow, OtherStock
from fallsunder.growing import Grower
from fallsunder.slimming import SlimSheet
from fallsunder.surveys import Survey
from fallsunder.watching import Watch, check_watchers


class Joint:
    """All rows of answers of a stock and its watchers, each with a least good."""

    def __init__(self, stock, watchers):
        check_watchers(stock, watchers)
        watch = Watch(stock, watchers, SlimSheet())
        survey = Survey(stock, watch.sheet, watch.desks, (watch.term_cells, watch.owners), wanted=watch.all_rows())
        grower = Grower(survey)
        table = {}
        for key, found in survey.rows.items():
            table[watch.row_of(key[1], key[2])] = grower.good_of(found[1])
        self._watch = watch
        self._table = {row: table[row] for row in sorted(table)}
        self._pairs = list(self._table.items())

    @property
    def many(self):
        """How many rows there are."""
        return len(self._pairs)

    def __iter__(self):
        return iter(self._pairs)

    def __contains__(self, x):
        return is_answers(x) and x in self._table

    def __getitem__(self, at):
        if not is_answers(at) or at not in self._table:
            raise NoRow(at)
        return self._table[at]

    def __eq__(self, other):
        return isinstance(other, Joint) and list(self._table) == list(other._table)

    def answers(self, good):
        """The row of a good."""
        if self._watch.stock != good.stock:
            raise OtherStock(1)
        return self._watch.answers_for(good)

    def where(self, number, answer):
        """The pairs `(row, good)` with this answer at this number."""
        if is_number_of(number, len(self._watch.spots)) and isinstance(answer, (bool, str)):
            for row, good in self._pairs:
                if row[number] == answer:
                    yield row, good


def is_answers(row):
    """Is it a tuple of truths and results?"""
    return isinstance(row, tuple) and all([isinstance(answer, (bool, str)) for answer in row])
