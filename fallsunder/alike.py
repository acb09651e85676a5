"""Are two books alike, or which goods part them?"""

from fallsunder.errors import OtherStock
from fallsunder.polls import book_poll, results_of_book


def parting_good(first, second):
    """None if all goods have the same result by both books, otherwise a least good that parts them."""
    if first.stock != second.stock:
        raise OtherStock(1)
    if first == second:
        return None
    pairs = [(one, other) for one in results_of_book(first) for other in results_of_book(second) if one != other]
    poll = book_poll([first, second], wanted=[[pair] for pair in pairs])
    row = poll.least_of([(0, pair) for pair in pairs])
    return None if row is None else poll.good_of(row)


def alike(first, second):
    """Are the books alike?"""
    return parting_good(first, second) is None
