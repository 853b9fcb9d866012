"""Things that are no locks, keys or deeds, whatever may be handed in."""

from fractions import Fraction


class Mute:
    """A thing that answers nothing: whoever compares, counts, hashes or shows it fails."""

    def fail(self, *args):
        raise RuntimeError("asked")

    __eq__ = __lt__ = __le__ = __gt__ = __ge__ = __abs__ = fail
    __len__ = __iter__ = __getitem__ = __contains__ = __bool__ = __hash__ = __repr__ = __str__ = fail


class Pretender:
    """A thing that is like a number, but no int."""

    def __int__(self):
        return 1

    __index__ = __int__

    def __eq__(self, other):
        return True

    def __hash__(self):
        return 1


def knot():
    things = []
    things.append(things)
    return things


# What is no tuple.
NO_TUPLES = [
    None, True, False, 0, 1, -1, 10 ** 5000, 1.0, float("nan"), float("inf"), 1j, Fraction(1, 2),
    "", "a", "push", "push 1", b"", b"push", bytearray(b"push"),
    [], [1], {}, {1: 2}, set(), frozenset((1, 2)), range(0), range(3), iter(()), object(), object,
    tuple, len, lambda: (), Mute(), Pretender(), knot(), Ellipsis, NotImplemented,
]

# What is no whole number.
NO_WHOLE_NUMBERS = [thing for thing in NO_TUPLES if not isinstance(thing, int)]
NO_WHOLE_NUMBERS += [True, False, (), (1,), ((),), "1", "0"]

# What is no text that is a row's word.
NO_WORDS = [thing for thing in NO_TUPLES if not (isinstance(thing, str) and thing == "push")]
NO_WORDS += [
    (), ("drop",), "Drop", "DROP", "drop ", " drop", "dro", "drops", "div", "dup", "endif", "then",
    "Push", "PUSH", "push ", "pop", "Copy", "Paid", "pay", "nop", "or", "and", "key", "\u0131f",
]
