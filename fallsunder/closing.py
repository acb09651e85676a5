"""Looks for what leads out of a table of kinds."""

from fallsunder.benches import Pack, look_of_record, lowest, parted_answers, starts_by
from fallsunder.stages import takings_of, wider_sides


def record_of(bench, watch, cells, kind):
    """The record of a kind: what a thing needs to know of a part of this kind."""
    bits = sum([bench.bit_of[cell] for cell, truth in zip(cells, kind[1]) if truth and cell in bench.bit_of])
    return (bits, tuple([kind[2][watch.owners.index(owner)] for owner in bench.keepers]))


def kind_at(answers, at, root, cells, owners):
    """The kind of one of the goods of some answers."""
    results = []
    for owner in owners:
        results.extend([name for bits, name in answers.groups[owner] if bits >> at & 1])
    return (root, tuple([answers.worths[cell] >> at & 1 == 1 for cell in cells]), tuple(results))


def first_stranger(answers, cases, wide, cells, watched, known):
    """The number of a good whose kind is not among the known ones, with its kind; None if all are."""
    roots = [case[0] for case in cases]
    starts = starts_by([roots.index(root) for root in roots], wide)
    for goods, _, _ in parted_answers(answers, starts, cells, watched):
        at = lowest(goods)
        kind = kind_at(answers, at, roots[at // wide], cells, watched)
        if kind not in known:
            return (at, kind)
    return None


def leading_mixture(bench, owners, cells, rows):
    """The number of a mixture whose kind is none of the rows, with its kind; None if there is none."""
    known = {row: True for row in rows}
    return first_stranger(bench.mixes(), [("mix", "")], len(bench.mixtures), cells, owners, known)


def leading_making(bench, watch, cells, rows):
    """A making of the rows that gives none of them, with what it gives; None if there is none."""
    known = {row: True for row in rows}
    records = [record_of(bench, watch, cells, row) for row in rows]
    for taking in takings_of(bench.stock.forms):
        inside = [k for k, row in enumerate(rows) if row[0] in taking.takes]
        pack = Pack(bench, inside, [records[k] for k in inside])
        for many, sides in enumerate(all_sides(bench, taking, inside, records)):
            cases = taking.cases(many + 1, bench.stock.states)
            for side in sides if cases and inside else []:
                answers = bench.things(cases, many + 1, pack, side)
                found = first_stranger(answers, cases, len(inside), cells, watch.owners, known)
                if found is not None:
                    form, state = cases[found[0] // len(inside)]
                    parts = [inside[found[0] % len(inside)], *side[2]]
                    return ((form, state, tuple([rows[k] for k in parts]), 0), found[1])
    return None


def all_sides(bench, taking, inside, records):
    """For each number of other parts, the sides that parts of these records make."""
    looks = {}
    for k in inside:
        looks.setdefault(look_of_record(bench, records[k]), k)
    others = [(*look, k) for look, k in looks.items()]
    out = [[(0, bench.each_mask, ())]]
    for many in range(1, taking.reach + 1):
        fresh = []
        for side in out[many - 1]:
            fresh.extend(wider_sides(taking, many, side, others))
        out.append(fresh)
    return out
