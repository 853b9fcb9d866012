"""Blocks and rules, the gift at a height, and how a block is done on a hoard."""

from spentonce.deeds import is_deed, is_maker, worth_of
from spentonce.errors import BadBlock, NoBlock, NoRules
from spentonce.whole import is_tuple, is_within

MOST_DEEDS = 12
MOST_STEP = 1000
MOST_RIPE = 1000


def checked_block(thing):
    if not is_block(thing):
        # The thing itself is not shown: it may be one that can't be written.
        raise NoBlock("a block is a tuple (number, ahead, weight, deeds), each part within its bounds")
    return thing


def is_block(thing):
    if not is_tuple(thing, 4, 4) or not is_within(thing[0], 1, 10 ** 30):
        return False
    return is_within(thing[1], 0, 10 ** 30) and is_within(thing[2], 1, 10 ** 30) and are_deeds(thing[3])


def are_deeds(thing):
    if not is_tuple(thing, 1, MOST_DEEDS) or not all([is_deed(part) for part in thing]):
        return False
    return is_maker(thing[0]) and not any([is_maker(deed) for deed in thing[1:]])


def checked_rules(thing):
    if not are_rules(thing):
        raise NoRules("rules are a tuple (gift, step, ripe), each part within its bounds")
    return thing


def are_rules(thing):
    if not is_tuple(thing, 3, 3) or not is_within(thing[0], 0, 10 ** 40):
        return False
    return is_within(thing[1], 1, MOST_STEP) and is_within(thing[2], 0, MOST_RIPE)


def gift(rules, height):
    first = rules[0]
    times = max((height - 1) // rules[1], 0)
    # Halved as often as it has bits a number is 0, so no greater shift is asked of Python.
    return first >> min(times, first.bit_length())


def block_fault(hoard, block, height, rules):
    # Tried on a copy: the hoard itself stays as it is, whatever comes out.
    trial = hoard.copied()
    fees = 0
    for place, deed in enumerate(block[3]):
        word = trial.fault(deed, height)
        if word is not None:
            return (place, word)
        fees += trial.fee(deed)
        trial.do(deed, height, free_from(deed, height, rules))
    if worth_of_makers(block) > gift(rules, height) + fees:
        return (0, "much")
    return None


def do_block(hoard, block, height, rules):
    fault = block_fault(hoard, block, height, rules)
    if fault is not None:
        raise BadBlock(f"the block has the fault {fault}")
    return [hoard.do(deed, height, free_from(deed, height, rules)) for deed in block[3]]


def free_from(deed, height, rules):
    return height + rules[2] if is_maker(deed) else height


def worth_of_makers(block):
    return sum([worth_of(deed) for deed in block[3] if is_maker(deed)])
