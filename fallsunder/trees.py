"""Plain goods, walked and built without going down into them step by step: they may be very deep.

A head is a node without its parts: a mix itself, or `(form, state, land, many)` for a thing of so many parts.
"""


def plain_nodes(plain):
    """All nodes of a plain good, in the order of a walk."""
    out = []
    stack = [plain]
    while stack:
        node = stack.pop()
        out.append(node)
        if node[0] != "mix":
            stack.extend(node[3][::-1])
    return out


def head_of(node):
    """The head of a plain node."""
    if node[0] == "mix":
        return node
    return (node[0], node[1], node[2], len(node[3]))


def built(heads):
    """The plain good whose nodes, in the order of a walk, have these heads."""
    done = []
    for head in heads[::-1]:
        if head[0] == "mix":
            done.append(head)
        else:
            # what stands behind a node in a walk is done already, its first part uppermost
            at = len(done) - head[3]
            parts = tuple(done[at:][::-1])
            done = list(done[:at])
            done.append((head[0], head[1], head[2], parts))
    return done[0]


def multiplied(plain, n):
    """The plain good with all its grams multiplied by n."""
    heads = []
    for node in plain_nodes(plain):
        if node[0] == "mix":
            heads.append(("mix", node[1], tuple([(stuff, worth * n) for stuff, worth in node[2]])))
        else:
            heads.append(head_of(node))
    return built(heads)


def landed(plain, land):
    """The plain good with this land at all its nodes."""
    heads = []
    for node in plain_nodes(plain):
        if node[0] == "mix":
            heads.append(("mix", land, node[2]))
        else:
            heads.append((node[0], node[1], land, len(node[3])))
    return built(heads)


def replaced(plain, place, part):
    """The plain good with another part at a place that it has."""
    above = []
    node = plain
    for k in place:
        above.append(node)
        node = node[3][k]
    new = part
    for number, node in enumerate(above[::-1]):
        k = place[len(place) - 1 - number]
        new = (node[0], node[1], node[2], (*node[3][:k], new, *node[3][k + 1:]))
    return new


def same_plain(first, second):
    """Are two plain goods the same? Asked node by node, since Python's own == goes down into them."""
    stack = [(first, second)]
    while stack:
        one, other = stack.pop()
        if head_of(one) != head_of(other):
            return False
        if one[0] != "mix":
            stack.extend(list(zip(one[3], other[3])))
    return True
