"""The greatest price that goods of a leaf need to fall under a heading."""

from fallsunder.errors import NoHeading
from fallsunder.kits import Kit
from fallsunder.pricing import Pricing
from fallsunder.quotients import Quotient


def far_price(book, leaf, heading, prices):
    """`(price, good)`, the price None if the good cannot be changed so; None if no good has the leaf as its result."""
    if leaf not in book.leaves:
        raise NoHeading(leaf)
    if heading not in book:
        raise NoHeading(heading)
    wanted = book.beneath(heading)
    kit = Kit([book])
    labels = [(kind.results[0] == leaf, kind.results[0] in wanted) for kind in kit.kinds]
    pricing = Pricing(Quotient(kit, labels), leaf, wanted, prices)
    if pricing.best is None:
        return None
    return (pricing.best[0], pricing.good_of_best())
