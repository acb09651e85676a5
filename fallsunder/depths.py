"""How deep one must look into goods to tell their results."""

from fallsunder.checks import is_number
from fallsunder.errors import BadNumber, OtherStock
from fallsunder.exchange import frame_around
from fallsunder.opengoods import has_shares
from fallsunder.soundings import Sounding


def alike_to(first, second, depth):
    """Are two goods alike to this depth?"""
    if first.stock != second.stock:
        raise OtherStock(1)
    check_depth(depth)
    stack = [(first, second, depth)]
    while stack:
        one, other, left = stack.pop()
        if left > 0:
            if not alike_by_itself(one, other):
                return False
            stack.extend([(part, mate, left - 1) for part, mate in zip(list(one), list(other))])
    return True


def check_depth(depth):
    """It is a depth."""
    if not is_number(depth) or depth < 0:
        raise BadNumber(depth)


def alike_by_itself(one, other):
    """Are two nodes alike, whatever their parts are?"""
    if one.root != other.root or one.state != other.state:
        return False
    if one.root == "mix":
        return has_shares(one, other.plain[2])
    return one.many == other.many and one.main == other.main


def unlike_at(book, depth):
    """None if the depth is enough, otherwise two goods that are alike to it and have different results."""
    check_depth(depth)
    sounding = Sounding(book)
    if depth == 0:
        return sounding.two_results()
    found = sounding.layers_at(depth)
    if found is None:
        return None
    hole, layers = found
    insides = [sounding.good_of(number) for number in (hole.first, hole.second)]
    weights = [good.weight for good in insides]
    insides = (insides[0] * weights[1], insides[1] * weights[0])
    frame = frame_around(book.stock, sounding, layers, insides)
    return (frame.first, frame.second)


def looking_depth(book):
    """The least depth that is enough, None if there is none."""
    sounding = Sounding(book)
    return 0 if sounding.two_results() is None else sounding.least_depth()
