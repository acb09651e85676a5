"""Ways to bring in a good: whole, or joined from parts that are brought in by ways of their own."""

from fallsunder.answering import answers_in_state
from fallsunder.errors import BadWay, OtherStock
from fallsunder.goods import good_nodes
from fallsunder.ratios import Ratio

MOST_WAYS = 4


class Way:
    """A way, made of a plain one: `("whole", state)` or `("joined", ways)`."""

    def __init__(self, plain):
        place = bad_way(plain)
        if place is not None:
            raise BadWay(place)
        self.plain = plain

    def __eq__(self, other):
        return isinstance(other, Way) and same_ways(self.plain, other.plain)

    def units(self, good):
        """The goods that it brings in whole, each in its state."""
        return tuple([unit_of(node, way) for _, node, way in steps_of(self.plain, good, True) if way[0] == "whole"])

    def costs(self, rates, good):
        """Its price for a good."""
        if good.stock != rates.book.stock:
            raise OtherStock(2)
        total = Ratio(0)
        for _, node, way in steps_of(self.plain, good, rates.finishing is not None):
            if way[0] == "joined":
                total = total + rates.join_price(node.root) * node.weight
            else:
                total = total + rates.duty(unit_of(node, way))
                if way[1] != node.state:
                    total = total + rates.finishing * node.weight
        return total


def bad_way(plain):
    """The place of the first way in it that is none by its form, None if all are ways."""
    stack = [((), plain)]
    while stack:
        place, way = stack.pop()
        if not is_way(way):
            return place
        if way[0] == "joined":
            stack.extend([((*place, k), inner) for k, inner in enumerate(way[1])][::-1])
    return None


def is_way(way):
    """Is it a way by itself, whatever the ways beneath it are?"""
    if not isinstance(way, tuple) or len(way) != 2 or not isinstance(way[0], str):
        return False
    if way[0] == "whole":
        return isinstance(way[1], str)
    return way[0] == "joined" and isinstance(way[1], tuple) and 1 <= len(way[1]) <= MOST_WAYS


def same_ways(first, second):
    """Are two plain ways the same? Asked one by one, since they may be nested deeply."""
    stack = [(first, second)]
    while stack:
        one, other = stack.pop()
        if one[0] != other[0] or (one[0] == "whole" and one[1] != other[1]):
            return False
        if one[0] == "joined":
            if len(one[1]) != len(other[1]):
                return False
            stack.extend(list(zip(one[1], other[1])))
    return True


def steps_of(plain, good, may_finish):
    """The ways in a plain way, in the order of a walk, each with its place and its part: rows (place, part, way)."""
    out = []
    stack = [((), good, plain)]
    while stack:
        place, node, way = stack.pop()
        if not fits_way(node, way, may_finish):
            raise BadWay(place)
        out.append((place, node, way))
        if way[0] == "joined":
            rows = [((*place, k), part, way[1][k]) for k, part in enumerate(node)]
            stack.extend(rows[::-1])
    return out


def fits_way(node, way, may_finish):
    """Does a way fit a part, whatever the ways beneath it are?"""
    if way[0] == "joined":
        return node.root != "mix" and node.many == len(way[1])
    if way[1] == node.state:
        return True
    return node.root != "mix" and may_finish and way[1] in node.stock.states


def unit_of(node, way):
    """The part that is brought in whole, in its state."""
    return node if way[1] == node.state else node.restated((), way[1])


def cheapest(rates, good):
    """`(way, price)` with a way of the least price."""
    check_rates(rates, good)
    done = []
    for node, whole in list(zip(good_nodes(good), whole_prices(rates, good)))[::-1]:
        parts = [done.pop() for _ in range(node.many)]
        plain, price = least_of(whole)
        if parts:
            joint = rates.join_price(node.root) * node.weight
            for _, part in parts:
                joint = joint + part
            if joint.less(price):
                plain, price = ("joined", tuple([way for way, _ in parts])), joint
        done.append((plain, price))
    return (Way(done[0][0]), done[0][1])


def check_rates(rates, good):
    """The good is over the stock of the rates."""
    if good.stock != rates.book.stock:
        raise OtherStock(1)


def least_of(rows):
    """The first row (way, price) with the least price."""
    best = rows[0]
    for row in rows[1:]:
        if row[1].less(best[1]):
            best = row
    return best


def whole_prices(rates, good):
    """For each node, in the order of a walk, rows (way, price) of bringing it in whole, its own state first."""
    sheet, desk = rates.book.at_work()
    out = []
    done = []
    for node in good_nodes(good)[::-1]:
        below = [done.pop() for _ in range(node.many)]
        rows = []
        for state in states_in(rates, node):
            values, told = answers_in_state(sheet, {0: desk}, node, below, state)
            price = rates[told[0]]
            if state == node.state:
                done.append((values, told))
            else:
                price = price + rates.finishing
            rows.append((("whole", state), price * node.weight))
        out.append(rows)
    return out[::-1]


def states_in(rates, node):
    """The states in which a part can be brought in whole, its own first."""
    if node.root == "mix" or rates.finishing is None:
        return [node.state]
    return [node.state, *[state for state in node.stock.states if state != node.state]]


def all_ways(rates, good):
    """All Ways to bring in a good, each once."""
    check_rates(rates, good)
    nodes = good_nodes(good)
    states = [states_in(rates, node) for node in nodes]
    counts = way_counts(nodes, states)
    for number in range(counts[0]):
        yield Way(way_at(nodes, states, counts, number))


def way_counts(nodes, states):
    """For each node how many ways there are to bring it in."""
    out = []
    done = []
    for node, names in list(zip(nodes, states))[::-1]:
        joint = 1
        for _ in range(node.many):
            joint = joint * done.pop()
        done.append(len(names) + (joint if node.many > 0 else 0))
        out.append(done[len(done) - 1])
    return out[::-1]


def way_at(nodes, states, counts, number):
    """The plain way with this number: of a node those of being whole come first, then those of its parts in turns."""
    heads = []
    # the numbers of the ways of nodes still to come, None where a thing above them is brought in whole
    stack = [number]
    for at, node in enumerate(nodes):
        here = stack.pop()
        if here is None or here < len(states[at]):
            stack.extend([None for _ in node])
            heads.extend([] if here is None else [("whole", states[at][here])])
        else:
            left = here - len(states[at])
            inner = []
            for count in part_counts(nodes, counts, at):
                inner.append(left % count)
                left = left // count
            stack.extend(inner[::-1])
            heads.append(("joined", len(inner)))
    done = []
    for word, about in heads[::-1]:
        done.append((word, about) if word == "whole" else (word, tuple([done.pop() for _ in range(about)])))
    return done[0]


def part_counts(nodes, counts, at):
    """How many ways there are for each part of the node with this number."""
    out = []
    k = at + 1
    for part in nodes[at]:
        out.append(counts[k])
        k += part.size
    return out
