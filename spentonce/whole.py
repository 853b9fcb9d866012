"""What all other modules ask of whole numbers and of tuples."""


def is_whole(thing):
    # To Python a truth is an int too; here it is no number.
    return isinstance(thing, int) and not isinstance(thing, bool)


def is_within(thing, least, most):
    return is_whole(thing) and least <= thing <= most


def is_tuple(thing, least, most):
    return isinstance(thing, tuple) and least <= len(thing) <= most
