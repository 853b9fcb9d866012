"""Coins, deeds and makers."""

from spentonce.errors import NoDeed
from spentonce.locks import are_keys, is_lock
from spentonce.whole import is_tuple, is_within

MOST_INS = 8
MOST_OUTS = 8


def checked(thing):
    if not is_deed(thing):
        # The thing itself is not shown: it may be one that can't be written.
        raise NoDeed("a deed is a tuple (number, ins, outs), each part within its bounds")
    return thing


def is_maker(deed):
    return len(deed[1]) == 0


def made_by(deed):
    return [(deed[0], place) for place in range(len(deed[2]))]


def worth_of(deed):
    return sum([out[0] for out in deed[2]])


def is_deed(thing):
    if not is_tuple(thing, 3, 3):
        return False
    return is_within(thing[0], 1, 10 ** 30) and are_ins(thing[1]) and are_outs(thing[2])


def are_ins(thing):
    return is_tuple(thing, 0, MOST_INS) and all([is_in(part) for part in thing])


def is_in(thing):
    return is_tuple(thing, 2, 2) and is_coin(thing[0]) and are_keys(thing[1])


def is_coin(thing):
    return is_tuple(thing, 2, 2) and all([is_within(part, 0, 10 ** 30) for part in thing])


def are_outs(thing):
    return is_tuple(thing, 1, MOST_OUTS) and all([is_out(part) for part in thing])


def is_out(thing):
    return is_tuple(thing, 2, 2) and is_within(thing[0], 1, 10 ** 40) and is_lock(thing[1])
