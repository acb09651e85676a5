"""Rates by which no good is brought in more cheaply than whole, as it is.

In a least good that has a cheaper way, each part is brought in most cheaply whole. So it is enough to look at things
whose parts are brought in whole, and at things that are finished here.
"""

from fallsunder.counters import Counters, average_of
from fallsunder.ratios import Ratio


def cheaper_good(rates):
    """None if the rates are firm, otherwise a least good that has a cheaper way than to be brought in as it is."""
    counters = Counters(rates)
    best = None
    for thing in counters.all_things():
        if (best is None or thing.nodes < best.nodes) and counters.is_cheaper(thing):
            best = thing
    return None if best is None else counters.good_of(best)


def is_firm(rates):
    """Are the rates firm?"""
    return cheaper_good(rates) is None


def least_joining(rates):
    """The least joining price of a gram for each form by which the rates are firm, without finishing."""
    counters = Counters(rates)
    greatest = (0, 1)
    for thing in counters.all_things():
        total, many = average_of(thing.main_rate, thing.other_rates)
        gain = (counters.rate_of(thing.kind) * many - total, many)
        if gain[0] * greatest[1] > greatest[0] * gain[1]:
            greatest = gain
    return Ratio(greatest[0], greatest[1] * counters.scale)
