"""Whole numbers and bytes, as the other files ask for them."""


def is_whole(thing, least, most):
    """Whether any thing is a whole number from least to most."""
    # Python's truths are ints too, but no whole numbers.
    if isinstance(thing, bool) or not isinstance(thing, int):
        return False
    return least <= thing <= most


def is_byte(thing):
    """Whether any thing is a byte."""
    return is_whole(thing, 0, 255)


def are_bytes(things, least, most):
    """Whether a list or a tuple has from least to most items, all of them bytes."""
    return least <= len(things) <= most and all([is_byte(one) for one in things])


def is_byte_tuple(thing, least, most):
    """Whether any thing is a tuple of from least to most bytes."""
    return isinstance(thing, tuple) and are_bytes(thing, least, most)
