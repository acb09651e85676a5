"""Shapes: goods without their grams, in an order in which they are counted and numbered."""

from fallsunder.checks import is_number, is_number_of
from fallsunder.errors import BadNumber, BadRow
from fallsunder.goodcheck import is_thing
from fallsunder.goods import sound_good
from fallsunder.shapeorder import ALL, ShapeOrder
from fallsunder.trees import built, head_of, plain_nodes


def is_shape(stock, thing):
    """Is it a shape over the stock?"""
    stack = [(thing, None)]
    while stack:
        node, takes = stack.pop()
        if not is_shape_node(stock, node) or (takes is not None and node[0] not in takes):
            return False
        if node[0] != "mix":
            stack.extend([(part, stock[node[0]][2]) for part in node[3]])
    return True


def is_shape_node(stock, node):
    """Is it a node of a shape by itself?"""
    if not isinstance(node, tuple) or len(node) < 3 or not isinstance(node[0], str):
        return False
    if node[0] != "mix":
        return is_thing(stock, node)
    if len(node) != 3 or node[1] not in stock.lands or not isinstance(node[2], tuple) or node[2] == ():
        return False
    return all([stuff in stock.stuffs for stuff in node[2]]) and list(node[2]) == sorted(set(node[2]))


def order_of(stock):
    """The order of the shapes of a stock, made once."""
    if "shapes" not in stock.memory:
        stock.memory["shapes"] = ShapeOrder(stock)
    return stock.memory["shapes"]


def check_nodes(nodes):
    """It is a number of nodes."""
    if not is_number(nodes) or nodes < 1:
        raise BadNumber(nodes)


def count(stock, nodes):
    """How many shapes of so many nodes there are."""
    check_nodes(nodes)
    return order_of(stock).count_of(nodes, ALL)


def shape_at(stock, nodes, number):
    """The shape of so many nodes with this number."""
    if not is_number_of(number, count(stock, nodes)):
        raise BadNumber(number)
    return order_of(stock).shape_of_number(nodes, number)


def number_of(stock, shape):
    """The number of a shape among the shapes of its size."""
    if not is_shape(stock, shape):
        raise BadRow(0)
    return order_of(stock).number_of_shape(shape)


def good_of(stock, shape):
    """The Good of this shape with 1 gram of each stuff of each mix."""
    if not is_shape(stock, shape):
        raise BadRow(0)
    heads = []
    for node in plain_nodes(shape):
        if node[0] == "mix":
            heads.append(("mix", node[1], tuple([(stuff, 1) for stuff in node[2]])))
        else:
            heads.append(head_of(node))
    return sound_good(stock, built(heads))


def shape_of(good):
    """The shape of a Good."""
    heads = []
    for node in plain_nodes(good.plain):
        if node[0] == "mix":
            heads.append(("mix", node[1], tuple([pair[0] for pair in node[2]])))
        else:
            heads.append(head_of(node))
    return built(heads)


def shapes(stock, nodes):
    """All shapes of so many nodes, in their order."""
    order = order_of(stock)
    for number in range(count(stock, nodes)):
        yield order.next_shape(nodes, number)
