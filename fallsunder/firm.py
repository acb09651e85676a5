"""Rates by which no good is brought in more cheaply than whole, as it is.

In a least good that has a cheaper way, each part is brought in most cheaply whole. So it is enough to look at things
whose parts are brought in whole, and at things that are finished here.
"""

from fallsunder.counters import Counters, average_of, smallest
from fallsunder.ratios import Ratio


def cheaper_good(rates):
    """None if the rates are firm, otherwise a least good that has a cheaper way than to be brought in as it is."""
    counters = Counters(rates)
    best = None
    for stall in counters.all_stalls():
        for thing in counters.cheaper_things(stall):
            if best is None or thing.nodes < best.nodes:
                best = thing
    return None if best is None else counters.good_of(best)


def is_firm(rates):
    """Are the rates firm?"""
    return cheaper_good(rates) is None


def least_joining(rates):
    """The least joining price of a gram for each form by which the rates are firm, without finishing."""
    counters = Counters(rates)
    greatest = (0, 1)
    for stall in counters.all_stalls():
        for rate, mains in stall.mains.items():
            if smallest([mains], stall.bits) is not None:
                for side in stall.sides:
                    total, many = average_of(rate, side.rates)
                    gain = (stall.rate * many - total, many)
                    greatest = gain if gain[0] * greatest[1] > greatest[0] * gain[1] else greatest
    return Ratio(greatest[0], greatest[1] * counters.scale)
