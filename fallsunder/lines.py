"""Which leaves of a book are narrower than others."""

from fallsunder.errors import NoHeading


def narrower(book, first, second):
    """Is the first leaf narrower than the second one?"""
    for name in (first, second):
        if name not in book.leaves:
            raise NoHeading(name)
    titles = list(book)
    return book.ladder.is_narrower(titles.index(first), titles.index(second))


def narrow_pairs(book):
    """All pairs `(narrower leaf, wider leaf)`, in the order of the book."""
    return tuple([(first, second) for first in book.leaves for second in book.leaves
                  if narrower(book, first, second)])
