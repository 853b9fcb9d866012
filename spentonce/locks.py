"""What a lock is, and what keys are."""

from spentonce.whole import is_tuple, is_whole, is_within

MOST_ROWS = 30
MOST_KEYS = 10
MOST_IFS_WITHIN = 5
LAST_PLACE = 9

PLACE_WORDS = ("copy", "paid")

LONE_WORDS = (
    "drop", "swap", "add", "sub", "mul", "less", "same", "not", "need",
    "height", "age", "worth", "ins", "outs", "if", "else", "end",
)


def is_lock(thing):
    if not is_tuple(thing, 0, MOST_ROWS):
        return False
    return all([is_row(row) for row in thing]) and ifs_fit(thing)


def are_keys(thing):
    return is_tuple(thing, 0, MOST_KEYS) and all([is_short(key) for key in thing])


def is_short(thing):
    # Figures are not counted in a written number: Python refuses to write very long ones.
    return is_whole(thing) and abs(thing) < 10 ** 50


def is_row(thing):
    # The word is a text before it is looked up: any thing at all may stand in its place.
    if not is_tuple(thing, 1, 2) or not isinstance(thing[0], str):
        return False
    if len(thing) == 1:
        return thing[0] in LONE_WORDS
    if thing[0] == "push":
        return is_short(thing[1])
    return thing[0] in PLACE_WORDS and is_within(thing[1], 0, LAST_PLACE)


def ifs_fit(rows):
    # For each if whose end is still to come: whether its else has been there.
    elses = []
    for row in rows:
        if row[0] == "if":
            elses.append(False)
        elif row[0] == "else":
            if not elses or elses[-1]:
                return False
            elses[-1] = True
        elif row[0] == "end":
            if not elses:
                return False
            elses.pop()
        if len(elses) > MOST_IFS_WITHIN:
            return False
    return not elses
