"""Counts shapes, and tells the shape that stands at a number and the number at which a shape stands.

Beneath a form only those shapes are counted whose roots it takes; they stand in the same order as among all shapes.
"""

from fallsunder.trees import built

ALL = ""
# shapes of few nodes are built from parts that are kept, where there are not too many of these
FEW_NODES = 12
MOST_KEPT = 4096


class ShapeOrder:
    """The shapes of a stock in their order; a ground is ALL, or the name of a form whose parts are asked."""

    def __init__(self, stock):
        self._stock = stock
        grounds = {ALL: ["mix", *[row[0] for row in stock.forms]]}
        for row in stock.forms:
            grounds[row[0]] = row[3]
        self._grounds = grounds
        # for each root and each ground how many shapes of 0, 1, 2 .. nodes there are
        self._root_counts = {root: [0] for root in self._grounds[ALL]}
        self._sums = {ground: [0] for ground in self._grounds}
        # for each form, and each number of parts, how many rows of parts of 0, 1, 2 .. nodes in all
        self._rows = {row[0]: [[1], *[[0] for _ in range(row[2])]] for row in stock.forms}
        self._kept = {}

    def count_of(self, nodes, ground):
        """How many shapes of so many nodes there are on a ground."""
        while len(self._sums[ALL]) <= nodes:
            self._grow(len(self._sums[ALL]))
        return self._sums[ground][nodes]

    def _grow(self, nodes):
        stock = self._stock
        self._root_counts["mix"].append(len(stock.lands) * ((1 << len(stock.stuffs)) - 1) if nodes == 1 else 0)
        for name, least, most, _ in list(stock.forms):
            rows = sum([self._rows[name][many][nodes - 1] for many in range(least, most + 1)])
            self._root_counts[name].append(len(stock.states) * len(stock.lands) * rows)
        for ground, roots in list(self._grounds.items()):
            self._sums[ground].append(sum([self._root_counts[root][nodes] for root in roots]))
        for name, _, most, _ in list(stock.forms):
            firsts = self._sums[name]
            table = self._rows[name]
            table[0].append(0)
            for many in range(1, most + 1):
                behind = table[many - 1]
                table[many].append(sum([firsts[k] * behind[nodes - k] for k in range(1, nodes + 1)]))

    def shape_of_number(self, nodes, number):
        """The shape of so many nodes that stands at the number, which is there."""
        heads = []
        stack = [(nodes, number, ALL)]
        while stack:
            size, at, ground = stack.pop()
            head, parts = self._head_at(size, at, ground)
            heads.append(head)
            stack.extend(parts[::-1])
        return built(heads)

    def next_shape(self, nodes, number):
        """The same, for many numbers one after another."""
        if nodes > FEW_NODES:
            return self.shape_of_number(nodes, number)
        return self.part_at_number(nodes, number, ALL)

    def part_at_number(self, size, at, ground):
        """The shape at a number on any ground; those that come again and again are kept."""
        key = (size, at, ground)
        if key in self._kept:
            return self._kept[key]
        head, parts = self._head_at(size, at, ground)
        shape = head
        if head[0] != "mix":
            shape = (*head[:3], tuple([self.part_at_number(*part) for part in parts]))
        if self.count_of(size, ground) <= MOST_KEPT:
            self._kept[key] = shape
        return shape

    def _head_at(self, size, at, ground):
        """The head of a shape, and the sizes, numbers and grounds of its parts."""
        self.count_of(size, ground)
        stock = self._stock
        for root in self._grounds[ALL]:
            many = self._root_counts[root][size] if root in self._grounds[ground] else 0
            if at < many:
                if root == "mix":
                    land, stuffs = divmod(at, (1 << len(stock.stuffs)) - 1)
                    return (("mix", stock.lands[land], self._stuffs_of(stuffs + 1)), [])
                return self._thing_at(root, size, at)
            at -= many
        return None

    def _thing_at(self, form, size, at):
        stock = self._stock
        least, most, _ = stock[form]
        block = sum([self._rows[form][many][size - 1] for many in range(least, most + 1)])
        place, at = divmod(at, block)
        many = least
        while at >= self._rows[form][many][size - 1]:
            at -= self._rows[form][many][size - 1]
            many += 1
        head = (form, stock.states[place // len(stock.lands)], stock.lands[place % len(stock.lands)], many)
        return (head, self._parts_at(form, many, size - 1, at))

    def _parts_at(self, form, many, nodes, at):
        """The sizes, numbers and grounds of the parts in the row of parts at a number."""
        sizes = []
        ahead = 1
        for left in range(many - 1, -1, -1):
            size = 1
            block = ahead * self._sums[form][size] * self._rows[form][left][nodes - size]
            while at >= block:
                at -= block
                size += 1
                block = ahead * self._sums[form][size] * self._rows[form][left][nodes - size]
            ahead = ahead * self._sums[form][size]
            nodes -= size
            sizes.append(size)
        parts = []
        for size in sizes[::-1]:
            at, number = divmod(at, self._sums[form][size])
            parts.append((size, number, form))
        return parts[::-1]

    def _stuffs_of(self, bits):
        stuffs = self._stock.stuffs
        return tuple(sorted([stuff for k, stuff in enumerate(stuffs) if bits >> k & 1]))

    def number_of_shape(self, shape):
        """The number at which a shape stands among the shapes of its size."""
        nodes = []
        stack = [(shape, ALL)]
        while stack:
            node, ground = stack.pop()
            nodes.append((node, ground))
            if node[0] != "mix":
                stack.extend([(part, node[0]) for part in node[3][::-1]])
        done = []
        for node, ground in nodes[::-1]:
            parts = []
            if node[0] != "mix":
                for _ in node[3]:
                    parts.append(done.pop())
            done.append(self._number_at(node, ground, parts))
        return done[0][1]

    def _number_at(self, node, ground, parts):
        """The size and the number of a node on its ground, from those of its parts."""
        stock = self._stock
        size = 1 + sum([part[0] for part in parts])
        self.count_of(size, ground)
        at = 0
        for root in self._grounds[ALL]:
            if root == node[0]:
                break
            at += self._root_counts[root][size] if root in self._grounds[ground] else 0
        if node[0] == "mix":
            bits = sum([1 << stock.stuffs.index(stuff) for stuff in node[2]])
            return (1, at + stock.lands.index(node[1]) * ((1 << len(stock.stuffs)) - 1) + bits - 1)
        least, most, _ = stock[node[0]]
        table = self._rows[node[0]]
        block = sum([table[many][size - 1] for many in range(least, most + 1)])
        place = stock.states.index(node[1]) * len(stock.lands) + stock.lands.index(node[2])
        fewer = sum([table[many][size - 1] for many in range(least, len(parts))])
        return (size, at + place * block + fewer + self._row_number(node[0], size - 1, parts))

    def _row_number(self, form, nodes, parts):
        """The number of a row of parts among the rows of as many parts and nodes."""
        sums = self._sums[form]
        at = 0
        ahead = 1
        within = 0
        for k, part in enumerate(parts):
            behind = self._rows[form][len(parts) - 1 - k]
            at += ahead * sum([sums[size] * behind[nodes - size] for size in range(1, part[0])])
            ahead = ahead * sums[part[0]]
            within = within * sums[part[0]] + part[1]
            nodes -= part[0]
        return at + within
