"""All origins that goods can have by one rule, or by two at once, with goods of the fewest nodes.

Of a part it matters what kind it is and which origins it has. Which parts of a thing stay is asked for each target:
the results of the thing, and the lands that count as one with its own. A sign tells by its bits by which rules a part
stays.
"""

from fallsunder.ascents import Ascent
from fallsunder.balances import weights_within
from fallsunder.halls import halls_of
from fallsunder.kits import Kit
from fallsunder.quotients import Quotient
from fallsunder.weighing import Making


class Target:
    """Results of a thing by each rule, and lands whose things have the same parts that stay."""

    def __init__(self, results, heads, lands):
        self.number = -1
        self.results = results
        self.heads = heads
        self.lands = lands


class Sourced:
    """A part in a hall: its numbers there, its results and its origins by each rule."""

    def __init__(self, number, nodes, at, results, origins):
        self.number = number
        self.nodes = nodes
        self.main_at, self.look_at = at
        self.results = results
        self.origins = origins


class SourcedSide:
    """Parts beside a main part: the number of their side, and rows (sign, number of the part), ascending by signs."""

    def __init__(self, name, nodes, target, at, rows):
        self.name = name
        self.signs = tuple([sign for sign, _ in rows])
        self.beside = len(rows)
        self.nodes = nodes
        self.target = target
        self.at = at
        self.rows = rows


class Provenance(Ascent):
    """Finds the rows `(results, land, origins)` that goods have by some rules.

    Sought may be `parting`, goods with two origins, or `kinder`, goods that are gained by the second rule alone: a
    least such good is the one that was found; then no more is looked for.
    """

    def __init__(self, rules, sought):
        books = [rules[0].book] if rules[0].book == rules[len(rules) - 1].book else [rule.book for rule in rules]
        kit = Quotient(Kit(books))
        super().__init__(halls_of(kit))
        self.stock = kit.stock
        self.makings = []
        self.rows = {}
        self.found = None
        self._kit = kit
        self._rules = list(rules)
        self._sought = sought
        self._results = [(*kind.results, *kind.results)[:len(rules)] for kind in kit.kinds]
        self._all_zero = all([rule.tolerance.top == 0 for rule in rules])
        self._outcomes = {}
        self._met = {}
        self._targets = []
        self._signs = {}
        self._spots = {}
        self._sides = 0
        self._most = self._most_rows()
        self._begin()
        self.run()

    def _most_rows(self):
        """How many rows there can be by one rule: mixes have their own land as their origin."""
        lands = len(self.stock.lands)
        things = {self._results[at]: True for at, kind in enumerate(self._kit.kinds) if kind.top != "mix"}
        mixes = {names: True for names in self._results if names not in things}
        return len(things) * lands * lands + len(mixes) * lands

    def _begin(self):
        for stand in list(self.stands):
            forms = [row[0] for row in stand.hall.room.taking.forms]
            results = {self._results[at]: True for at, kind in enumerate(self._kit.kinds) if kind.top in forms}
            for target in targets_of(self._rules, self.stock.lands, list(results)):
                target.number = len(self._targets)
                self._targets.append(target)
                self._enter_side(0, stand, target, 0, ())
        for number, kind in enumerate(list(self._kit.kinds)):
            for land in list(self.stock.lands) if kind.top == "mix" else []:
                if not self.ended:
                    making = Making(("mix", land), (), kind.making[0], ())
                    self._take(1, number, (land, [land for _ in self._rules], [True for _ in self._rules]), making)

    def _take(self, nodes, number, told, making):
        """Take up a good of a kind with a land, origins, and whether it is gained, by each rule."""
        land, origins, gained = told
        if self._sought == "parting" and origins[0] != origins[1]:
            self.ended = True
        if self._sought == "kinder" and gained[1] and not gained[0]:
            self.ended = True
        if self.ended:
            self.found = making
            return
        self.rows.setdefault((self._results[number], land, tuple(origins)), making)
        if self._sought == "" and len(self.rows) == self._most:
            self.ended = True
        key = ("part", number, tuple(origins))
        if key not in self._met:
            self._met[key] = True
            self.makings.append(making)
            kind = self._kit.kinds[number]
            for stand in list(self.stands):
                if kind.top in stand.hall.takes:
                    hall = stand.hall
                    at = (hall.main_at[kind.record], hall.look_of(kind))
                    part = Sourced(len(self.makings) - 1, nodes, at, self._results[number], tuple(origins))
                    self.put_part(stand, part)

    def _enter_side(self, nodes, stand, target, at, rows):
        self.put_side(stand, SourcedSide(self._sides, nodes, target, at, rows))
        self._sides += 1

    def _sign_of(self, part, target):
        """A bit for each rule by which the part stays in things of a target."""
        key = (part.number, target.number)
        if key not in self._signs:
            sign = 0
            for k, rule in enumerate(self._rules):
                if part.results[k] == target.results[k] and rule.head_of_land(part.origins[k]) != target.heads[k]:
                    sign = sign | 1 << k
            self._signs[key] = sign
        return self._signs[key]

    def may_join(self, stand, part, side):
        """Does a case give the results of the target, and is it not so with parts that are as good and no larger?"""
        if side.target.results not in self._results_at(stand, side)[part.main_at]:
            return False
        sign = self._sign_of(part, side.target)
        key = ("main", side.name, part.main_at, sign, part.origins)
        if key in self._met:
            return False
        self._met[key] = True
        return self._fresh_cases(stand, part, side) != []

    def _results_at(self, stand, side):
        """For each main part the results of the things that it makes with parts like these beside it."""
        key = (stand.number, side.beside, side.at)
        if key not in self._spots:
            rows = stand.hall.kinds_beside(side.beside, side.at)
            self._spots[key] = [[self._results[kind] for kind in kinds] for kinds in zip(*rows)]
            if not rows:
                self._spots[key] = [[] for _ in stand.hall.main_at]
        return self._spots[key]

    def _fresh_cases(self, stand, part, side):
        """Rows (case, kind, key) of the things with the results of the target that may bring something new."""
        sign = self._sign_of(part, side.target)
        out = []
        for case, row in zip(stand.hall.case_rows[side.beside], stand.hall.kinds_beside(side.beside, side.at)):
            kind = row[part.main_at]
            key = ("thing", kind, sign, side.signs, side.target.heads, part.origins)
            if self._results[kind] == side.target.results and key not in self._met:
                out.append((case, kind, key))
        return out

    def may_widen(self, stand, part, side):
        """May one more part stand there, and is it not so with a smaller one that is as good?"""
        key = ("other", side.name, part.look_at, self._sign_of(part, side.target))
        if side.beside == stand.hall.reach or key in self._met:
            return False
        self._met[key] = True
        return True

    def widen(self, nodes, stand, part, side):
        """Take up the side with one more part."""
        rows = tuple(sorted([*side.rows, (self._sign_of(part, side.target), part.number)]))
        at = stand.hall.wider[side.beside][side.at][part.look_at]
        signs = [sign for sign, _ in rows]
        # where nothing is tolerated, it matters alone whether some part stays
        shown = joined_bits(signs) if self._all_zero else tuple(signs)
        key = ("side", side.target.number, len(rows), at, shown)
        if key not in self._met:
            self._met[key] = True
            self._enter_side(nodes, stand, side.target, at, rows)

    def combine(self, nodes, stand, part, side):
        """Take up the things of a main part and a side that have the results of the target."""
        signs = (self._sign_of(part, side.target), *side.signs)
        numbers = (part.number, *[number for _, number in side.rows])
        for case, kind, key in self._fresh_cases(stand, part, side):
            # whatever is of this kind later on, with such parts, brings nothing new
            self._met[key] = True
            for gained, weights, rows in list(self._outcomes_of(signs)):
                for land in list(side.target.lands):
                    if not self.ended:
                        origins = [land if own else part.origins[k] for k, own in enumerate(gained)]
                        making = Making((*case, land), numbers, weights, rows)
                        self._take(nodes, kind, (land, origins, gained), making)

    def _outcomes_of(self, signs):
        """By which rules things whose parts have these signs can be gained at once, with weights of the parts."""
        if signs not in self._outcomes:
            out = []
            for gained in all_choices(len(self._rules)):
                rows = [row_for(rule, k, signs, gained[k]) for k, rule in enumerate(self._rules)]
                weights = weights_within(rows, len(signs))
                if weights is not None:
                    out.append((gained, weights, rows))
            self._outcomes[signs] = out
        return self._outcomes[signs]


def all_choices(many):
    """All rows of so many truths."""
    out = [()]
    for _ in range(many):
        out = [(*row, truth) for row in out for truth in (True, False)]
    return out


def row_for(rule, k, signs, is_gained):
    """The row that weights keep if a thing is gained, or is not, by a rule; its bit is number k of the signs."""
    top = rule.tolerance.top
    bottom = rule.tolerance.bottom
    over = [(bottom if sign >> k & 1 else 0) - top for sign in signs]
    return (tuple(over), False) if is_gained else (tuple([-number for number in over]), True)


def joined_bits(signs):
    """All bits that are in some sign."""
    out = 0
    for sign in signs:
        out = out | sign
    return out


def targets_of(rules, lands, results):
    """The Targets for these results, and for all lands."""
    groups = {}
    for land in lands:
        groups.setdefault(tuple([rule.head_of_land(land) for rule in rules]), []).append(land)
    return [Target(names, heads, some) for names in results for heads, some in groups.items()]
