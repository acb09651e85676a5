"""The greatest price that goods of a leaf need to fall under a heading."""

from fallsunder.errors import NoHeading
from fallsunder.pricing import Pricing
from fallsunder.stories import Tower


def far_price(book, leaf, heading, prices):
    """`(price, good)`, the price None if the good cannot be changed so; None if no good has the leaf as its result."""
    if leaf not in book.leaves:
        raise NoHeading(leaf)
    if heading not in book:
        raise NoHeading(heading)
    pricing = Pricing(Tower(book, leaf, book.beneath(heading)), leaf, prices)
    if pricing.best is None:
        return None
    return (pricing.best[0], pricing.good_of_best())
