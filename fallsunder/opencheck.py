"""What a plain open good must be, asked node by node, and which of its places are open."""

from fallsunder.checks import is_number_of
from fallsunder.goodcheck import is_mixture
from fallsunder.termtree import bad_term, headings_in, unknown_name

MOST_BLANKS = 5


def bad_open_place(stock, plain):
    """The place of the first node that is none or is not taken by the thing above it; None if all are sound."""
    stack = [((), plain, None)]
    while stack:
        place, node, takes = stack.pop()
        if not is_open_node(stock, node):
            return place
        if takes is not None and node[0] != "open" and node[0] not in takes:
            return place
        below = stock[node[0]][2] if is_told_thing(node) else ()
        for k, part in reversed(list(enumerate(told_parts(node)))):
            stack.append(((*place, k), part, below))
    return None


def is_open_node(stock, node):
    """Is it an open term, a mix or a thing told in part by itself, whatever its parts are?"""
    if not isinstance(node, tuple) or len(node) < 2 or not isinstance(node[0], str):
        return False
    if node[0] == "open":
        return len(node) == 2 and is_asked_of(stock, node[1])
    if node[0] == "mix":
        return len(node) == 3 and node[1] in stock.lands and is_mixture(stock, node[2])
    if len(node) != 5 or node[0] not in [row[0] for row in stock.forms] or not isinstance(node[4], tuple):
        return False
    least, most, _ = stock[node[0]]
    if not is_open_or(node[1], stock.states) or node[2] not in stock.lands or not least <= len(node[4]) <= most:
        return False
    return is_open(node[3]) or is_number_of(node[3], len(node[4]))


def is_asked_of(stock, plain):
    """Is it a plain term without a `falls` that names only what the stock has?"""
    return bad_term(plain) is None and not headings_in(plain) and unknown_name(stock, plain) is None


def is_open(thing):
    """Is it the word `open`?"""
    return isinstance(thing, str) and thing == "open"


def is_open_or(thing, names):
    """Is it the word `open`, or one of the names?"""
    return isinstance(thing, str) and (thing == "open" or thing in names)


def is_told_thing(node):
    """Is a sound node a thing?"""
    return node[0] not in ("open", "mix")


def told_parts(node):
    """The parts that a sound node tells."""
    return node[4] if is_told_thing(node) else ()


def blanks_of(plain):
    """The open places of a sound plain open good, in the order of a walk."""
    out = []
    stack = [((), plain)]
    while stack:
        place, node = stack.pop()
        if node[0] == "open":
            out.append(("part", place))
        elif is_told_thing(node):
            out.extend([(word, place) for word, entry in (("state", node[1]), ("main", node[3])) if is_open(entry)])
            stack.extend([((*place, k), part) for k, part in enumerate(node[4])][::-1])
    return out


def node_at(plain, place):
    """The node of a plain open good at a place that it has."""
    for k in place:
        plain = plain[4][k]
    return plain
