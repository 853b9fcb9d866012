"""How a lock is tried with keys and facts on a pile of whole numbers, the top one last."""

MOST_LYING = 20

FACT_WORDS = ("height", "age", "worth", "ins", "outs")
PAID = 5

# How many numbers a row takes off; a row that isn't here takes none.
TAKEN = {"drop": 1, "swap": 2, "add": 2, "sub": 2, "mul": 2, "less": 2, "same": 2, "not": 1, "need": 1}


def opens(lock, keys, facts):
    pile = []
    # For each if whose end is still to come: whether its rows are done now, and whether those behind its else.
    parts = []
    if not lay(pile, keys):
        return False
    for row in lock:
        if row[0] in ("if", "else", "end"):
            stays_shut = not turn(row[0], parts, pile)
        else:
            stays_shut = is_done(parts) and not do_row(row, pile, facts)
        if stays_shut:
            return False
    return len(pile) > 0 and pile[-1] != 0


def is_done(parts):
    # The innermost part tells it alone: an if in a part that isn't done has no part that is.
    return not parts or parts[-1][0]


# lay, turn and do_row change the pile, and answer False where the lock stays shut.


def lay(pile, numbers):
    for number in numbers:
        if abs(number) >= 10 ** 60 or len(pile) >= MOST_LYING:
            return False
        pile.append(number)
    return True


def turn(word, parts, pile):
    if word == "end":
        parts.pop()
    elif word == "else":
        parts[-1] = (parts[-1][1], False)
    elif not is_done(parts):
        parts.append((False, False))
    elif not pile:
        return False
    else:
        top = pile.pop()
        parts.append((top != 0, top == 0))
    return True


def do_row(row, pile, facts):
    if not has_enough(row, pile):
        return False
    taken = take(pile, TAKEN.get(row[0], 0))
    if row[0] == "need":
        return taken[0] != 0
    return lay(pile, laid_by(row, taken, pile, facts))


def has_enough(row, pile):
    if row[0] == "copy":
        # Nothing lies above the top, so a place below 0 finds nothing either.
        return 0 <= row[1] < len(pile)
    return TAKEN.get(row[0], 0) <= len(pile)


def take(pile, count):
    # Counted from the bottom: a slice from -0 on would be the whole pile.
    taken = pile[len(pile) - count:]
    for number in taken:
        pile.pop()
    return taken


def laid_by(row, taken, pile, facts):
    word = row[0]
    if word == "push":
        return [row[1]]
    if word == "copy":
        return [pile[-1 - row[1]]]
    if word == "paid":
        return [paid_at(facts[PAID], row[1])]
    if word in FACT_WORDS:
        return [facts[FACT_WORDS.index(word)]]
    if word == "drop":
        return []
    if word == "swap":
        return [taken[1], taken[0]]
    if word == "not":
        return [1 if taken[0] == 0 else 0]
    return [outcome(word, taken[0], taken[1])]


def paid_at(paid, place):
    return paid[place] if 0 <= place < len(paid) else 0


def outcome(word, a, b):
    if word == "add":
        return a + b
    if word == "sub":
        return a - b
    if word == "mul":
        return a * b
    if word == "less":
        return 1 if a < b else 0
    return 1 if a == b else 0
