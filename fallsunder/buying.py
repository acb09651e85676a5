"""Parts to be got in a land, so that a good has its origin there."""

from fallsunder.answering import all_answers
from fallsunder.errors import OtherStock, Unknown
from fallsunder.goods import good_nodes


class Purchase:
    """Parts to be got: their grams together, and their places, told from the node for which they are got."""

    def __init__(self, load, spots):
        self.load = load
        self.spots = spots


def least_weight(rule, good, land):
    """`(grams, places)` of parts that weigh least and that, got in the land, give the good its origin there."""
    if good.stock != rule.book.stock:
        raise OtherStock(1)
    if not isinstance(land, str) or land not in good.stock.lands:
        raise Unknown(land)
    sheet, desk = rule.book.at_work()
    results = [told[0] for _, told in all_answers(sheet, {0: desk}, good)]
    done = []
    for node, result in list(zip(good_nodes(good), results))[:0:-1]:
        below = [done.pop() for _ in range(node.many)]
        done.append((node_purchases(rule, node, result, below, land), result))
    least = root_purchase(rule, good, results[0], done[::-1], land)
    return (least.load, least.spots)


def root_purchase(rule, good, result, below, land):
    """The least Purchase for a good whose own root gets the land without being counted."""
    if not below:
        return Purchase(0, ())
    least = purchases_of_parts(rule, good, result, below, land).get(land)
    whole = Purchase(good.weight, ((),))
    return whole if least is None or least.load > whole.load else least


def node_purchases(rule, node, result, below, land):
    """For each origin that a node can have the least Purchase for it; below are rows (purchases, result)."""
    out = purchases_of_parts(rule, node, result, below, node.land) if below else {node.land: Purchase(0, ())}
    if land not in out or out[land].load > node.weight:
        out[land] = Purchase(node.weight, ((),))
    return out


def purchases_of_parts(rule, node, result, below, land):
    """For each origin of a thing that is made in a land the least Purchase for it, over all origins of its parts."""
    loads = [part.weight for part in node]
    out = {}
    for origins in all_rows([list(purchases) for purchases, _ in below]):
        stays = [k for k, origin in enumerate(origins) if below[k][1] == result and not rule.as_one(origin, land)]
        staying = sum([loads[k] for k in stays])
        is_gained = staying * rule.tolerance.bottom <= node.weight * rule.tolerance.top
        origin = land if is_gained else origins[node.main]
        chosen = [below[k][0][name] for k, name in enumerate(origins)]
        load = sum([one.load for one in chosen])
        if origin not in out or out[origin].load > load:
            out[origin] = Purchase(load, tuple([(k, *spot) for k, one in enumerate(chosen) for spot in one.spots]))
    return out


def all_rows(lists):
    """All rows that have one entry of each list."""
    out = [()]
    for things in lists:
        out = [(*row, thing) for row in out for thing in things]
    return out
