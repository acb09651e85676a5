"""What is asked of goods, of their parts, of the parts of these, and so on, with the benches that tell it."""

from fallsunder.excerpts import asked_in_turn, bench_for
from fallsunder.stages import narrowed_row


class Levels:
    """For each depth what is asked of nodes there: less and less the deeper they lie."""

    def __init__(self, stock, sheet, desks, asked):
        self.stock = stock
        self.sheet = sheet
        self.desks = desks
        self.top = asked
        self._chain, self._again = asked_in_turn(stock, sheet, desks, asked)
        self._benches = {}

    def asked_at(self, depth):
        """What is asked of nodes at a depth: `(cells, owners)`."""
        if depth == 0:
            return self.top
        return self._chain[depth] if depth < len(self._chain) else self._again

    def level_of(self, depth):
        """A number for the depth, the same for all depths from which on the same is asked."""
        return min(depth, len(self._chain))

    def bench_at(self, depth):
        """The Bench that tells what is asked at a depth."""
        at = self.level_of(depth)
        if at not in self._benches:
            self._benches[at] = bench_for(self.stock, self.sheet, self.desks, self.asked_at(at))
        return self._benches[at]

    def need_of(self, record, depth):
        """What the Bench above a depth asks of a record of a node there."""
        return narrowed_row(self.asked_at(depth), self.bench_at(depth - 1), record[0], record[1])


class EvenLevels(Levels):
    """The same is asked of nodes at each depth; it has all in it that is asked of parts."""

    def asked_at(self, depth):
        """What is asked of nodes at each depth."""
        return self.top

    def level_of(self, depth):
        """One number for all depths."""
        return 0
