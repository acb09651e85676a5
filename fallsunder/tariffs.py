"""Prices of many main parts at once: rows (price, bits of the main parts that have it), the prices ascending."""


def tariff_of(rows):
    """The least price of each main part, from rows (price, bits) in any order."""
    table = {}
    for price, bits in rows:
        table[price] = table.get(price, 0) | bits
    out = []
    seen = 0
    for price in sorted(table):
        fresh = (table[price] | seen) ^ seen
        if fresh:
            out.append((price, fresh))
            seen = seen | fresh
    return out


def raised(tariff, price):
    """A tariff with all prices raised."""
    return [(first + price, bits) for first, bits in tariff]


def least_price(tariff, bits):
    """The least price of one of some main parts, None if none of them has one."""
    for price, some in tariff:
        if some & bits:
            return price
    return None


def is_as_dear(tariff, other):
    """Does each main part cost at least as much by the first tariff as by the other one?"""
    cheaper = list(other)
    seen = 0
    for price, bits in tariff:
        while cheaper and cheaper[0][0] <= price:
            seen = seen | cheaper.pop(0)[1]
        if bits & seen != bits:
            return False
    return True


def lesser(first, second):
    """The lesser one of two prices, each of which may be None."""
    if first is None or (second is not None and second < first):
        return second
    return first
