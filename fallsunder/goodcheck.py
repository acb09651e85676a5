"""What a plain good must be, asked node by node."""

from fallsunder.checks import is_number


def bad_place(stock, plain):
    """The place of the first node that is none or is not taken by the thing above it; None if all are sound."""
    stack = [((), plain, None)]
    while stack:
        place, node, takes = stack.pop()
        if not is_node(stock, node) or (takes is not None and node[0] not in takes):
            return place
        if node[0] != "mix":
            below = stock[node[0]][2]
            for k in reversed(range(len(node[3]))):
                stack.append(((*place, k), node[3][k], below))
    return None


def is_node(stock, node):
    """Is it a mix or a thing by itself, whatever its parts are?"""
    if not isinstance(node, tuple) or len(node) < 3 or not isinstance(node[0], str):
        return False
    if node[0] == "mix":
        return len(node) == 3 and node[1] in stock.lands and is_mixture(stock, node[2])
    return is_thing(stock, node)


def is_thing(stock, node):
    """Is a tuple that is no mix a thing by itself, whatever its parts are?"""
    if len(node) != 4 or node[0] not in [row[0] for row in stock.forms]:
        return False
    least, most, _ = stock[node[0]]
    if node[1] not in stock.states or node[2] not in stock.lands or not isinstance(node[3], tuple):
        return False
    return least <= len(node[3]) <= most


def is_mixture(stock, pairs):
    """Are they pairs of stuffs and grams, the stuffs ascending?"""
    if not isinstance(pairs, tuple) or pairs == () or not all([is_pair(stock, pair) for pair in pairs]):
        return False
    stuffs = [pair[0] for pair in pairs]
    return stuffs == sorted(set(stuffs))


def is_pair(stock, pair):
    """Is it a stuff of the stock with grams?"""
    if not isinstance(pair, tuple) or len(pair) != 2:
        return False
    return pair[0] in stock.stuffs and is_number(pair[1]) and pair[1] >= 1


def is_place_of(good, place):
    """Does a Good have this place?"""
    if not isinstance(place, tuple):
        return False
    node = good.plain
    for k in place:
        if node[0] == "mix" or not is_number(k) or not 0 <= k < len(node[3]):
            return False
        node = node[3][k]
    return True
