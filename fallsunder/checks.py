"""What is asked of things that are passed, whatever they are."""


def is_number(thing):
    """Is it an integer? True and False are none."""
    return isinstance(thing, int) and not isinstance(thing, bool)


def is_list(thing):
    """Is it a list or a tuple?"""
    return isinstance(thing, (list, tuple))


def is_listing(thing, least, most):
    """Is it a list or a tuple with from least to most entries?"""
    return is_list(thing) and least <= len(thing) <= most


def is_number_of(thing, many):
    """Is it the number of one of so many things?"""
    return is_number(thing) and 0 <= thing < many
