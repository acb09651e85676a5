"""Weights of the parts of a thing that keep some rows, the first part being the main one.

A row is `(numbers, strict)`, a number for each part: the sum of the weights, each multiplied by its number, is at
most 0, or less than 0 if the row is strict.
"""

from itertools import combinations
from math import gcd, lcm

# how often weights that are nearly those wanted are made twice as fine
MOST_TURNS = 12


def weights_within(rows, many):
    """Integer weights of so many parts that keep the rows, none of them heavier than the first; None if there are none.

    All that keep the rows, borders included, lie between corners; the middle of all corners is off each border that
    some corner is off.
    """
    bounds = bounds_of(rows, many)
    corners = [corner for corner in corners_of(bounds, many - 1) if is_inside(bounds, corner)]
    whole = 1
    for _, lowest in corners:
        whole = lcm(whole, lowest)
    sums = [sum([tops[k] * (whole // bottom) for tops, bottom in corners]) for k in range(many - 1)]
    weights = [whole * len(corners), *sums]
    by = 0
    for weight in weights:
        by = gcd(by, weight)
    if by == 0 or not is_kept(rows, weights) or min(weights) < 1:
        return None
    return tuple([weight // by for weight in weights])


def is_kept(rows, weights):
    """Do the weights keep the rows, and is none of them heavier than the first?"""
    for numbers, strict in rows:
        total = sum([number * weight for number, weight in zip(numbers, weights)])
        if total > 0 or (strict and total == 0):
            return False
    return max(weights) == weights[0]


def bounds_of(rows, many):
    """Rows `(numbers, limit)` for the weights of the parts but the first one, whose weight is 1."""
    bounds = [(numbers[1:], -numbers[0]) for numbers, _ in rows]
    for k in range(many - 1):
        bounds.append((unit(many - 1, k, 1), 1))
        bounds.append((unit(many - 1, k, -1), 0))
    return bounds


def unit(many, at, worth):
    """So many numbers, all 0 but one."""
    return tuple([worth if k == at else 0 for k in range(many)])


def corners_of(bounds, many):
    """The points `(tops, bottom)` at which so many bounds are met at once."""
    if many == 0:
        return [((), 1)]
    out = []
    for some in combinations(bounds, many):
        bottom = determinant([numbers for numbers, _ in some])
        if bottom != 0:
            tops = [determinant([swapped(row, k) for row in some]) for k in range(many)]
            sign = 1 if bottom > 0 else -1
            out.append((tuple([top * sign for top in tops]), bottom * sign))
    return out


def swapped(bound, at):
    """The numbers of a bound, one of them exchanged by its limit."""
    numbers, limit = bound
    return (*numbers[:at], limit, *numbers[at + 1:])


def determinant(rows):
    """The determinant of a square table."""
    if not rows:
        return 1
    total = 0
    for k, number in enumerate(rows[0]):
        if number != 0:
            inner = determinant([(*row[:k], *row[k + 1:]) for row in rows[1:]])
            total += number * inner * (1 if k // 2 * 2 == k else -1)
    return total


def is_inside(bounds, corner):
    """Does a point meet all bounds?"""
    tops, bottom = corner
    for numbers, limit in bounds:
        if sum([number * top for number, top in zip(numbers, tops)]) > limit * bottom:
            return False
    return True


def multiples_near(loads, weights, rows):
    """By what parts with these loads are multiplied so that they keep the rows, as the weights do.

    Weights that are nearly the same give smaller numbers, as long as the rows leave room.
    """
    target = max([-(-load * weights[0] // weight) for load, weight in zip(loads, weights)])
    for _ in range(MOST_TURNS):
        factors = [-(-target // loads[0])]
        for load, weight in list(zip(loads, weights))[1:]:
            factors.append(max(1, target * weight // (weights[0] * load)))
        if is_kept(rows, [load * factor for load, factor in zip(loads, factors)]):
            return factors
        target = 2 * target
    whole = 1
    for load in loads:
        whole = lcm(whole, load)
    return [weight * (whole // load) for load, weight in zip(loads, weights)]
