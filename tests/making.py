"""Deeds and blocks, written shortly."""

from spentonce.errors import CoinError

# A lock that opens without keys, and one that opens with the key 5 alone.
OPEN = (("push", 1),)
FIVE = (("push", 5), ("same",))


def out(thing):
    """Of a worth alone the out with a lock that opens without keys."""
    return thing if isinstance(thing, tuple) else (thing, OPEN)


def part(thing):
    """Of a coin alone the in without keys."""
    return thing if isinstance(thing[0], tuple) else (thing, ())


def maker(number, *outs):
    return (number, (), tuple([out(thing) for thing in outs]))


def deed(number, ins, *outs):
    return (number, tuple([part(thing) for thing in ins]), tuple([out(thing) for thing in outs]))


def block(number, ahead, weight, *deeds):
    return (number, ahead, weight, deeds)


def lone(number, ahead, weight=1):
    """A block with a maker alone, which makes 1."""
    return block(number, ahead, weight, maker(1000 + number, 1))


def outcome(call, *things):
    """What a call answers, or the class of its refusal."""
    try:
        return call(*things)
    except CoinError as e:
        return e.__class__
