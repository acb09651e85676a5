"""What the headings, notes and rules of a book must be, asked in the order in which errors are due."""

from fallsunder.checks import is_listing
from fallsunder.errors import BadBook, BadName, BadNote, BadRule, BadTerm, BareFalls, Twice, Unknown
from fallsunder.termtree import bad_term, bare_heading, check_asked, check_known, headings_in, is_heading_name

MOST_HEADINGS = 12
MOST_NOTES = 16
RULES = ("special", "main", "first", "last")


def check_book(stock, headings, notes, rules):
    """All that is asked of the parts of a book."""
    check_forms(headings, notes, rules)
    for number, row in enumerate(headings):
        check_heading(stock, row, [other[0] for other in headings[:number]])
    names = [row[0] for row in headings]
    parents = [row[1] for row in headings]
    leaves = [name for name in names if name not in parents]
    for number, row in enumerate(notes):
        if not is_note(row, names, leaves):
            raise BadNote(number)
        check_note_term(stock, row[2], names)
    for number, word in enumerate(rules):
        if word not in RULES:
            raise BadRule(word)
        if word in rules[:number]:
            raise Twice(word)


def check_forms(headings, notes, rules):
    """The parts are lists of rows, as many as there may be."""
    if not is_listing(headings, 1, MOST_HEADINGS) or not all([is_listing(row, 3, 3) for row in headings]):
        raise BadBook("headings")
    if not is_listing(notes, 0, MOST_NOTES) or not all([is_listing(row, 4, 4) for row in notes]):
        raise BadBook("notes")
    if not is_listing(rules, 0, len(RULES)) or not all([isinstance(word, str) for word in rules]):
        raise BadBook("rules")


def check_heading(stock, row, earlier):
    """One heading, behind the names of the earlier ones."""
    name, parent, plain = row
    if not is_heading_name(name):
        raise BadName(name)
    if name in earlier:
        raise Twice(name)
    if not isinstance(parent, str) or (parent != "" and parent not in earlier):
        raise Unknown(parent)
    check_plain(plain)
    check_asked(stock, plain)


def check_plain(plain):
    """It is a plain term."""
    place = bad_term(plain)
    if place is not None:
        raise BadTerm(place)


def is_note(row, names, leaves):
    """Are its heading, its word and its target such as a note has?"""
    heading, word, _, target = row
    if not all([isinstance(entry, str) for entry in (heading, word, target)]) or heading not in names:
        return False
    if word == "sends":
        return heading in leaves and target in leaves and heading != target
    return word in ("takes", "shuts") and target == ""


def check_note_term(stock, plain, names):
    """The term of a note; behind part signs it may name headings of the book."""
    check_plain(plain)
    bare = bare_heading(plain)
    if bare is not None:
        raise BareFalls(bare)
    check_known(stock, plain)
    for heading in headings_in(plain):
        if heading not in names:
            raise Unknown(heading)
