"""How locks, deeds and blocks are written."""

EMPTY_LOCK = "-"


def shown_coin(coin):
    return ".".join([str(number) for number in coin])


def shown_lock(lock):
    if not lock:
        return EMPTY_LOCK
    return ", ".join([shown_row(row) for row in lock])


def shown_row(row):
    return " ".join([row[0]] + [str(number) for number in row[1:]])


def shown_deed(deed):
    ins = [shown_in(part) for part in deed[1]]
    outs = [shown_out(part) for part in deed[2]]
    return "; ".join([str(deed[0])] + ins + outs)


def shown_in(part):
    return " ".join(["in", shown_coin(part[0])] + [str(key) for key in part[1]])


def shown_out(part):
    return " ".join(["out", str(part[0]), shown_lock(part[1])])


def shown_block(block):
    place = " ".join([str(block[0]), "on", str(block[1]), "weight", str(block[2])])
    return " | ".join([place] + [shown_deed(deed) for deed in block[3]])
