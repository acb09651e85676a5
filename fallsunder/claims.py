"""Claims about all goods of a stock: each holds, or a least good that breaks it is told."""

from fallsunder.growing import Grower
from fallsunder.slimming import SlimSheet
from fallsunder.surveys import Survey
from fallsunder.termtree import check_asked

# rows of the answers to one term
FALSE = ("", 0, ())
TRUE = ("", 1, ())
# rows of the answers to two terms
FIRST = ("", 1, ())
SECOND = ("", 2, ())
BOTH = ("", 3, ())


def always(stock, term):
    """None if all goods keep the term, otherwise a least good that does not."""
    return least_good(stock, [term], [FALSE])


def never(stock, term):
    """None if no good keeps the term, otherwise a least good that does."""
    return least_good(stock, [term], [TRUE])


def implied(stock, first, second):
    """None if all goods that keep the first term keep the second one, otherwise a least good that does not."""
    return least_good(stock, [first, second], [FIRST])


def parting(stock, first, second):
    """None if all goods keep both terms or neither of them, otherwise a least good that keeps just one."""
    return least_good(stock, [first, second], [FIRST, SECOND])


def relation(stock, first, second):
    """How two terms lie: alike, narrower, wider, apart, or across."""
    rows = survey_of(stock, [first, second], [(FIRST, SECOND, BOTH)]).rows
    if FIRST not in rows and SECOND not in rows:
        return "alike"
    if FIRST not in rows:
        return "narrower"
    if SECOND not in rows:
        return "wider"
    return "across" if BOTH in rows else "apart"


def survey_of(stock, terms, wanted):
    """The rows of answers to the terms, until all of some wanted ones are there."""
    for term in terms:
        check_asked(stock, term.plain)
    sheet = SlimSheet()
    cells = [sheet.cell_of(term.plain, -1) for term in terms]
    return Survey(stock, sheet, {}, (cells, []), wanted=wanted)


def least_good(stock, terms, wanted):
    """A least good with one of the wanted rows, None if no good has one."""
    survey = survey_of(stock, terms, [(row,) for row in wanted])
    least = None
    for row in wanted:
        found = survey.rows.get(row)
        if found is not None and (least is None or found[0] < least[0]):
            least = found
    return None if least is None else Grower(survey).good_of(least[1])
