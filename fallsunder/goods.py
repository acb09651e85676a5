"""Goods: mixes of stuffs, and things that are made of parts."""

from fallsunder.checks import is_number
from fallsunder.errors import BadGood, BadNumber, NoPlace, OtherStock, Unknown
from fallsunder.goodcheck import bad_place, is_place_of
from fallsunder.trees import landed, multiplied, plain_nodes, replaced, same_plain


class Whole:
    """A plain good that needs no more looks, with its parts as Goods."""

    def __init__(self, plain, parts):
        self.plain = plain
        self.inner = parts


class Good:
    """A good over a stock, told as a tree; the program itself passes a Whole in the place of the plain good."""

    def __init__(self, stock, plain):
        whole = plain if isinstance(plain, Whole) else looked_through(stock, plain)
        self.stock = stock
        self.plain = whole.plain
        self._parts = whole.inner
        self._heavy = -1
        self._grams = 0
        self._nodes = 1
        self._levels = 1
        if self.plain[0] == "mix":
            self._grams = sum([pair[1] for pair in self.plain[2]])
        else:
            weights = [part.weight for part in self._parts]
            self._heavy = weights.index(max(weights))
            self._grams = sum(weights)
            self._nodes = 1 + sum([part.size for part in self._parts])
            self._levels = 1 + max([part.depth for part in self._parts])

    @property
    def root(self):
        """The word `mix`, or the form of the thing."""
        return self.plain[0]

    @property
    def state(self):
        """The state of the thing; of a mix it is empty."""
        return "" if self.plain[0] == "mix" else self.plain[1]

    @property
    def land(self):
        """The land in which it was made."""
        return self.plain[1] if self.plain[0] == "mix" else self.plain[2]

    @property
    def weight(self):
        """All its grams."""
        return self._grams

    @property
    def size(self):
        """The number of its nodes."""
        return self._nodes

    @property
    def depth(self):
        """1 for a mix, 1 more than the greatest depth of its parts for a thing."""
        return self._levels

    @property
    def many(self):
        """The number of its parts."""
        return len(self._parts)

    @property
    def main(self):
        """The number of the main part, -1 for a mix."""
        return self._heavy

    def grams(self, stuff):
        """The grams of this stuff in all its mixes."""
        if not isinstance(stuff, str) or stuff not in self.stock.stuffs:
            raise Unknown(stuff)
        mixes = [node for node in plain_nodes(self.plain) if node[0] == "mix"]
        return sum([pair[1] for node in mixes for pair in node[2] if pair[0] == stuff])

    def stuff(self):
        """Its stuff mix."""
        return sound_good(self.stock, stuff_mix(self).plain)

    def __iter__(self):
        return iter(self._parts)

    def __getitem__(self, at):
        if not is_place_of(self, at):
            raise NoPlace(at)
        return part_at(self, at)

    def __mul__(self, other):
        if not is_number(other) or other < 1:
            raise BadNumber(other)
        return sound_good(self.stock, multiplied(self.plain, other))

    def __eq__(self, other):
        return isinstance(other, Good) and self.stock == other.stock and same_plain(self.plain, other.plain)

    def places(self):
        """All its places, in the order of a walk."""
        stack = [((), self)]
        while stack:
            place, node = stack.pop()
            yield place
            for k, part in reversed(list(enumerate(node))):
                stack.append(((*place, k), part))

    def exchanged(self, place, other):
        """The good with the part at the place exchanged by another good."""
        if self.stock != other.stock:
            raise OtherStock(2)
        if not is_place_of(self, place):
            raise NoPlace(place)
        if place != () and other.root not in self.stock[part_at(self, place[:-1]).root][2]:
            raise BadGood(place)
        return sound_good(self.stock, replaced(self.plain, place, other.plain))

    def restated(self, place, state):
        """The good with another state of the thing at the place."""
        if not is_place_of(self, place) or part_at(self, place).root == "mix":
            raise NoPlace(place)
        if not isinstance(state, str) or state not in self.stock.states:
            raise Unknown(state)
        old = part_at(self, place).plain
        return sound_good(self.stock, replaced(self.plain, place, (old[0], state, old[2], old[3])))

    def got(self, place, land):
        """The good with this land at all nodes of the part at the place."""
        if not is_place_of(self, place):
            raise NoPlace(place)
        if not isinstance(land, str) or land not in self.stock.lands:
            raise Unknown(land)
        return sound_good(self.stock, replaced(self.plain, place, landed(part_at(self, place).plain, land)))


def looked_through(stock, plain):
    """The Whole of a plain good that was passed."""
    place = bad_place(stock, plain)
    if place is not None:
        raise BadGood(place)
    return whole_of(stock, plain)


def whole_of(stock, plain):
    """The Whole of a sound plain good; the Goods in it are made from the last node to the first one."""
    done = []
    for node in plain_nodes(plain)[::-1]:
        parts = []
        if node[0] != "mix":
            at = len(done) - len(node[3])
            parts = [Good(stock, whole) for whole in done[at:][::-1]]
            done = list(done[:at])
        done.append(Whole(node, parts))
    return done[0]


def sound_good(stock, plain):
    """The Good of a plain good that needs no more looks."""
    return Good(stock, whole_of(stock, plain))


def good_nodes(good):
    """All nodes of a Good, as Goods, in the order of a walk."""
    out = []
    stack = [good]
    while stack:
        node = stack.pop()
        out.append(node)
        stack.extend(list(node)[::-1])
    return out


def part_at(good, place):
    """The part of a Good at a place that it has, a Good."""
    node = good
    for k in place:
        parts = list(node)
        node = parts[k]
    return node


def stuff_mix(good):
    """The mix at the end of the row of main parts."""
    node = good
    while node.main >= 0:
        parts = list(node)
        node = parts[node.main]
    return node
