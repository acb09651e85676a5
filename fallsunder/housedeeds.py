"""What the deeds of a house must be, asked in the order in which errors are due."""

from fallsunder.bookcheck import check_plain
from fallsunder.checks import is_list, is_number
from fallsunder.errors import BadDay, BadName, BadNumber, NoDeed, NoEdition, OtherStock, Twice, Unknown
from fallsunder.stocks import is_name
from fallsunder.termtree import check_asked, is_heading_name

# how many entries a deed of each word has
LENGTHS = {"edition": 3, "ruling": 6, "lift": 3, "lot": 5, "enter": 5}
LAST_DAY = 1000000000


def check_deed(house, deed):
    """All that is asked of a deed before a house does it."""
    check_form(deed, dict(LENGTHS))
    last = house.rows[len(house.rows) - 1].deed[1] if house.rows else 0
    if not is_day(deed[1]) or deed[1] < last:
        raise BadDay(deed[1])
    word = deed[0]
    if word == "edition":
        check_stock(house, deed[2])
    elif word == "ruling":
        check_ruling_deed(house, deed)
    elif word == "lift":
        check_there(house, "ruling", deed[2])
    elif word == "lot":
        check_lot_deed(house, deed)
    else:
        check_enter_deed(house, deed)


def check_form(deed, lengths):
    """It has the first word of a deed, and as many entries as this deed."""
    if not is_list(deed):
        raise NoDeed(deed)
    word = deed[0] if len(deed) > 0 else ""
    if not isinstance(word, str) or word not in lengths or len(deed) != lengths[word]:
        raise NoDeed(word)


def is_day(thing):
    """Is it a day?"""
    return is_number(thing) and 0 <= thing <= LAST_DAY


def check_stock(house, thing):
    """A book or a good is over the stock of the house."""
    if thing.stock != house.stock:
        raise OtherStock(1)


def check_new(house, word, name):
    """It is a name that no standing deed with this word has."""
    if not is_name(name):
        raise BadName(name)
    if (word, name) in house.named_rows:
        raise Twice(name)


def check_there(house, word, name):
    """It is the name of a standing deed with this word."""
    if not isinstance(name, str) or (word, name) not in house.named_rows:
        raise Unknown(name)


def check_heading_word(name):
    """It is a heading's name."""
    if not is_heading_name(name):
        raise BadName(name)


def check_ruling_deed(house, deed):
    """What is asked of a ruling behind its day."""
    _, day, name, end, term, heading = deed
    check_new(house, "ruling", name)
    if end is not None and (not is_number(end) or end <= day):
        raise BadDay(end)
    check_plain(term)
    check_asked(house.stock, term)
    check_heading_word(heading)


def check_lot_deed(house, deed):
    """What is asked of a lot behind its day."""
    _, _, name, heading, load = deed
    check_new(house, "lot", name)
    check_heading_word(heading)
    if not is_number(load) or load < 1:
        raise BadNumber(load)


def check_enter_deed(house, deed):
    """What is asked of an entry behind its day."""
    _, day, name, good, lot = deed
    check_new(house, "enter", name)
    check_stock(house, good)
    if not isinstance(lot, str) or lot != "":
        check_there(house, "lot", lot)
    # days never go down, so that each edition is in force by now
    for row in house.rows:
        if row.deed[0] == "edition":
            return
    raise NoEdition(day)
