"""Which rows of answers some shares can have on mixes, and the lightest mixes that give them.

A part of the weight is told in units of which all make up SCALE, so that each p/q of a share is an integer.
"""

from math import gcd, lcm

# the least common multiple of all bottoms from 1 to 20
SCALE = 232792560


def mixture_cells(stuffs, shares):
    """All rows of answers that mixes of the stuffs give to shares `(word, stuff, p, q)`: `(truths, spans)`.

    There is a span `(low, low is out, high, high is out)` for each stuff: between these parts of the weight it stays.
    """
    cuts = [cut_of(share) for share in shares]
    tables = []
    for stuff in stuffs:
        tables.append(spans_between(sorted(set([cut for cut, share in zip(cuts, shares) if share[1] == stuff]))))
    cells = [[]]
    for table in tables:
        cells = [[*cell, span] for cell in cells for span in table if fits_below([*cell, span])]
    out = []
    for cell in cells:
        if fits_above(cell):
            truths = [starts_behind(cell[stuffs.index(share[1])], cut) for cut, share in zip(cuts, shares)]
            out.append((tuple(truths), tuple(cell)))
    return out


def cut_of(share):
    """Where a share becomes true: at this part of the weight (0), or just above it (1)."""
    return (share[2] * (SCALE // share[3]), 1 if share[0] == "over" else 0)


def spans_between(cuts):
    """The spans between cuts that ascend, from 0 up to the whole weight, without those that are empty."""
    out = []
    low = (0, 0)
    for high in [*cuts, (SCALE, 1)]:
        span = (low[0], low[1] == 1, high[0], high[1] == 0)
        if span[0] < span[2] or (span[0] == span[2] and not span[1] and not span[3]):
            out.append(span)
        low = high
    return out


def starts_behind(span, cut):
    """Does all of the span lie behind the cut?"""
    return (span[0], 1 if span[1] else 0) >= cut


def fits_below(cell):
    """Can parts of the weight in these spans be no more than the whole?"""
    low = sum([span[0] for span in cell])
    return low < SCALE or (low == SCALE and not any([span[1] for span in cell]))


def fits_above(cell):
    """Can parts of the weight in these spans make up the whole?"""
    high = sum([span[2] for span in cell])
    return high > SCALE or (high == SCALE and not any([span[3] for span in cell]))


def lightest_grams(cell):
    """The grams of each stuff in a mix of the least weight whose parts of the weight are in these spans."""
    cell = narrowed(cell)
    step = 1
    for span in cell:
        if span[0] == span[2]:
            step = lcm(step, SCALE // gcd(span[0], SCALE))
    weight = -(-least_guess(cell) // step) * step
    lows = [low_grams(span, weight) for span in cell]
    highs = [high_grams(span, weight) for span in cell]
    while not sum(lows) <= weight <= sum(highs) or any([low > high for low, high in zip(lows, highs)]):
        weight += step
        lows = [low_grams(span, weight) for span in cell]
        highs = [high_grams(span, weight) for span in cell]
    spare = weight - sum(lows)
    grams = []
    for low, high in zip(lows, highs):
        more = min(spare, high - low)
        grams.append(low + more)
        spare -= more
    return grams


def narrowed(cell):
    """The same spans, as single points where the sum of the weights leaves nothing else."""
    if sum([span[0] for span in cell]) == SCALE:
        return [(span[0], False, span[0], False) for span in cell]
    if sum([span[2] for span in cell]) == SCALE:
        return [(span[2], False, span[2], False) for span in cell]
    return cell


def least_guess(cell):
    """A weight, at least 1, below which no mix with parts in these spans can be."""
    below = SCALE - sum([span[0] for span in cell])
    above = sum([span[2] for span in cell]) - SCALE
    guess = 1
    # where a bound is out, the grams of the stuff are off it by at least 1/q
    if below > 0:
        guess = max(guess, -(-sum([gcd(span[0], SCALE) for span in cell if span[1]]) // below))
    if above > 0:
        guess = max(guess, -(-sum([gcd(span[2], SCALE) for span in cell if span[3]]) // above))
    for span in cell:
        if span[0] < span[2]:
            off = (gcd(span[0], SCALE) if span[1] else 0) + (gcd(span[2], SCALE) if span[3] else 0)
            guess = max(guess, -(-off // (span[2] - span[0])))
    return guess


def low_grams(span, weight):
    """The least grams of a stuff in a mix of this weight."""
    if span[1]:
        return span[0] * weight // SCALE + 1
    return -(-span[0] * weight // SCALE)


def high_grams(span, weight):
    """The greatest grams of a stuff in a mix of this weight."""
    if span[3]:
        return -(-span[2] * weight // SCALE) - 1
    return span[2] * weight // SCALE


def plain_mix(stuffs, land, grams):
    """The plain mix with so many grams of the stuffs, in their order."""
    return ("mix", land, tuple(sorted([(stuff, worth) for stuff, worth in zip(stuffs, grams) if worth > 0])))
