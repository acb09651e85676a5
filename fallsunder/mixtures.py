"""Which rows of answers mixes give to shares."""

from fallsunder.errors import BadRow
from fallsunder.goods import sound_good
from fallsunder.mixcells import lightest_grams, mixture_cells, plain_mix
from fallsunder.terms import Term
from fallsunder.termtree import SHARES, check_known


def mixture_rows(stock, shares):
    """The rows `(truths, good)` that mixes give to the shares, each with a lightest mix, ascending."""
    for number, share in enumerate(shares):
        if not isinstance(share, Term) or share.plain[0] not in SHARES:
            raise BadRow(number)
    for share in shares:
        check_known(stock, share.plain)
    table = {}
    for truths, cell in mixture_cells(stock.stuffs, [share.plain for share in shares]):
        table[truths] = sound_good(stock, plain_mix(stock.stuffs, stock.lands[0], lightest_grams(cell)))
    return tuple([(truths, table[truths]) for truths in sorted(table)])
