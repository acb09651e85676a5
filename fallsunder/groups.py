"""Groups of results that only together have the same sums by two books."""

from fallsunder.errors import NoRow, OtherStock


def groups(carried):
    """The finest groups `(old results, new results)` in which both results of each row are in one group."""
    parts = []
    for (old, new), _ in carried:
        joined = ([old], [new])
        apart = []
        for part in parts:
            if old in part[0] or new in part[1]:
                joined = ([*joined[0], *part[0]], [*joined[1], *part[1]])
            else:
                apart.append(part)
        parts = [*apart, joined]
    return tuple(sorted([(ascending(part[0]), ascending(part[1])) for part in parts]))


def ascending(names):
    """Some strings, each once, ascending."""
    return tuple(sorted(set(names)))


def totals(book, goods):
    """For each result of the goods the sum of their weights."""
    sums = {}
    for number, good in enumerate(goods):
        if good.stock != book.stock:
            raise OtherStock(number + 1)
        result = book(good)
        sums[result] = sums.get(result, 0) + good.weight
    return {result: sums[result] for result in sorted(sums)}


def group_sums(parts, side, sums):
    """For each group the sum over its results on a side: old ones (0) or new ones (1)."""
    told = [name for part in parts for name in part[side]]
    for result in sums:
        if result not in told:
            raise NoRow(result)
    return tuple([sum([sums[name] for name in part[side] if name in sums]) for part in parts])
