"""Plain terms: what they must be, how they are walked, and what they name."""

from math import gcd
from fallsunder.checks import is_number
from fallsunder.errors import BareFalls, Unknown
from fallsunder.stocks import LETTERS, RESERVED, is_name

# how many entries a term of each word has, and how many of them, from the last one on, are terms
SHAPES = {"any": (1, 0), "none": (1, 0), "mix": (1, 0), "form": (2, 0), "state": (2, 0), "over": (4, 0),
          "from": (4, 0), "parts": (2, 0), "some": (2, 1), "each": (2, 1), "main": (2, 1), "falls": (2, 0),
          "not": (2, 1), "and": (3, 2), "or": (3, 2)}
PART_SIGNS = ("some", "each", "main")
SHARES = ("over", "from")
LONGEST_HEADING = 8
GREATEST_BOTTOM = 20
GREATEST_PARTS = 4


def is_heading_name(thing):
    """Is it a heading's name: 1 to 8 letters and digits, and no reserved word?"""
    if not isinstance(thing, str) or not 1 <= len(thing) <= LONGEST_HEADING or thing in RESERVED:
        return False
    return all([sign in LETTERS or sign in "0123456789" for sign in thing])


def is_share_of(top, bottom):
    """Are they the top and the bottom of a share in lowest terms?"""
    if not is_number(top) or not is_number(bottom):
        return False
    return 1 <= bottom <= GREATEST_BOTTOM and 0 <= top <= bottom and gcd(top, bottom) == 1


def is_sign(term):
    """Is it a term by itself, whatever stands in the places of the terms beneath it?"""
    if not isinstance(term, tuple) or term == () or not isinstance(term[0], str) or term[0] not in SHAPES:
        return False
    word = term[0]
    if len(term) != SHAPES[word][0]:
        return False
    if word in ("form", "state"):
        return is_name(term[1])
    if word in SHARES:
        return is_name(term[1]) and is_share_of(term[2], term[3])
    if word == "parts":
        return is_number(term[1]) and 1 <= term[1] <= GREATEST_PARTS
    return word != "falls" or is_heading_name(term[1])


def bad_term(plain):
    """The place of the first term that is none, None if all are terms."""
    stack = [((), plain)]
    while stack:
        place, term = stack.pop()
        if not is_sign(term):
            return place
        for k, inner in reversed(list(enumerate(beneath_sign(term)))):
            stack.append(((*place, k), inner))
    return None


def beneath_sign(term):
    """The terms that stand directly beneath the sign of a term."""
    return term[len(term) - SHAPES[term[0]][1]:]


def term_nodes(plain):
    """The term and all terms in it, in the order of a walk."""
    out = []
    stack = [plain]
    while stack:
        term = stack.pop()
        out.append(term)
        stack.extend(beneath_sign(term)[::-1])
    return out


def once(things):
    """The strings of a list in their order, each once."""
    return list({thing: True for thing in things})


def names_in(plain):
    """The names of forms, states and stuffs, in the order of the walk, each once."""
    return once([term[1] for term in term_nodes(plain) if term[0] in ("form", "state", "over", "from")])


def headings_in(plain):
    """The headings that it names, in the order of the walk, each once."""
    return once([term[1] for term in term_nodes(plain) if term[0] == "falls"])


def bare_heading(plain):
    """The first heading that it names with no part sign above, None if there is none."""
    stack = [plain]
    while stack:
        term = stack.pop()
        if term[0] == "falls":
            return term[1]
        if term[0] not in PART_SIGNS:
            stack.extend(beneath_sign(term)[::-1])
    return None


def unknown_name(stock, plain):
    """The first name that is none of the stock as what it is asked, None if all are known."""
    forms = [row[0] for row in stock.forms]
    for term in term_nodes(plain):
        if term[0] == "form" and term[1] not in forms:
            return term[1]
        if term[0] == "state" and term[1] not in stock.states:
            return term[1]
        if term[0] in SHARES and term[1] not in stock.stuffs:
            return term[1]
    return None


def check_known(stock, plain):
    """All its names are known in the stock."""
    name = unknown_name(stock, plain)
    if name is not None:
        raise Unknown(name)


def check_asked(stock, plain):
    """It can be asked of goods of the stock, without a book."""
    headings = headings_in(plain)
    if headings:
        raise BareFalls(headings[0])
    check_known(stock, plain)


def look_of(plain):
    """The greatest number of part signs that stand above one another."""
    greatest = 0
    stack = [(plain, 0)]
    while stack:
        term, above = stack.pop()
        here = above + 1 if term[0] in PART_SIGNS else above
        greatest = max(greatest, here)
        for inner in beneath_sign(term):
            stack.append((inner, here))
    return greatest
