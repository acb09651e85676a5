"""Finds all that goods of a stock can be, each with a good of the fewest nodes that is so.

Sizes are taken in ascending order. Of a part a thing needs to know its record alone; of the parts beside the main
one, what some of them are and what each of them is. How deep a part lies tells which stage makes its record.
"""

from heapq import heappop, heappush
from fallsunder.excerpts import all_asked, asked_in_turn, bench_for
from fallsunder.stages import Stage


class Survey:
    """All rows that goods have: a root (or `""`), a bit for each cell asked, and results by the owners asked.

    Wanted are lists of rows: it stops where all of one list are found. Rows and makings are told with the sizes of
    their goods.
    """

    def __init__(self, stock, sheet, desks, asked, *, rooted=False, wanted=()):
        self.stock = stock
        self.rows = {}
        self.makings = []
        self._asked = (list(asked[0]), list(asked[1]))
        self._roots = ["mix", *stock.usable()]
        self._tags = {root: k if rooted else 0 for k, root in enumerate(self._roots)}
        self._rooted = rooted
        self._wanted = wanted
        self._met = {}
        self._queue = []
        self._due = {}
        self.stages = stages_of(stock, sheet, desks, self._asked, self._roots)
        self._run()

    def _run(self):
        self._plan(1)
        while self._queue:
            size = heappop(self._queue)
            for number, stage in enumerate(self.stages):
                self._make(number, stage, size)
            if any([all([row in self.rows for row in rows]) for rows in self._wanted]):
                return
            for stage in self.stages:
                for due in stage.take_up(size):
                    self._plan(due)

    def _make(self, number, stage, size):
        """Make all goods of a size that are new to a stage."""
        stage.fresh = []
        if size == 1:
            self._keep(number, stage, stage.done(None), size)
        for turn in stage.turns() if size > 1 else []:
            for job in stage.jobs(turn, size):
                self._keep(number, stage, stage.done(job), size)

    def _plan(self, size):
        if size not in self._due:
            self._due[size] = True
            heappush(self._queue, size)

    def _keep(self, number, stage, row, size):
        """Keep what is new in some answers: rows of the first stage, records of those that have one above."""
        if number == 0:
            for tag, bits, results, making in stage.new_rows(row, self._tags, self._asked, self._met):
                root = self._roots[tag] if self._rooted else ""
                self.rows[(root, bits, results)] = (size, making)
        if stage.telling is not None:
            for reach, bits, results, making in stage.told(row):
                stage.fresh.append((len(self.makings), reach, bits, results))
                self.makings.append((size, making))


def stages_of(stock, sheet, desks, asked, usable):
    """The stages for what is asked of goods: the first one tells their rows, the last one is below itself."""
    chain, again = asked_in_turn(stock, sheet, desks, asked)
    if len(chain) < 2:
        both = all_asked([*chain, again])
        return [Stage(bench_for(stock, sheet, desks, both), again, usable)]
    stages = [Stage(bench_for(stock, sheet, desks, chain[0]), None, usable)]
    for row in [*chain[1:], again]:
        stages.append(Stage(bench_for(stock, sheet, desks, row), row, usable))
    for number, stage in enumerate(stages[:-1]):
        stage.below = stages[number + 1]
    return stages
