"""Which facts about an open good settle its result."""

from fallsunder.checks import is_number_of
from fallsunder.errors import BadRow, OtherStock
from fallsunder.fillings import Filler
from fallsunder.sways import Sway


def doubt(book, open_good, choice):
    """None if the choice of open places settles the open good, otherwise two fillings that show that it does not."""
    check_facts(book, open_good, choice)
    filler = Filler(book, open_good.plain, [])
    for number, blank in enumerate(open_good.blanks):
        if number not in choice:
            found = Sway(filler).fillings_apart(blank)
            if found is not None:
                return (filler.good_of(found[0]), filler.good_of(found[1]))
    return None


def check_facts(book, open_good, choice):
    """The open good is over the stock of the book, and the choice has numbers of open places."""
    if open_good.stock != book.stock:
        raise OtherStock(1)
    for number in choice:
        if not is_number_of(number, len(open_good.blanks)):
            raise BadRow(number)


def settles(book, open_good, choice):
    """Does the choice of open places settle the open good?"""
    return doubt(book, open_good, choice) is None


def fewest_facts(book, open_good):
    """The numbers of the fewest open places that settle the open good: of those that change its result."""
    check_facts(book, open_good, ())
    sway = Sway(Filler(book, open_good.plain, []))
    return tuple([number for number, blank in enumerate(open_good.blanks)
                  if sway.fillings_apart(blank) is not None])
