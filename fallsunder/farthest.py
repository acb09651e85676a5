"""The greatest price that goods of a leaf need to fall under a heading."""

from fallsunder.errors import NoHeading
from fallsunder.kits import Kit
from fallsunder.pricing import Pricing


def far_price(book, leaf, heading, prices):
    """`(price, good)`, the price None if the good cannot be changed so; None if no good has the leaf as its result."""
    if leaf not in book.leaves:
        raise NoHeading(leaf)
    if heading not in book:
        raise NoHeading(heading)
    pricing = Pricing(Kit([book]), leaf, book.beneath(heading), prices)
    if pricing.best is None:
        return None
    return (pricing.best[0], pricing.good_of_best())
