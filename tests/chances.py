"""Things by chance, the same ones each time."""

import random

from making import FIVE, OPEN, block, maker
from telling import FACT_WORDS

RULES = ((20, 2, 0), (20, 3, 1), (9, 1, 0))
LOCKS = (OPEN, OPEN, OPEN, FIVE, (("age",), ("push", 1), ("less",), ("not",)), (("height",), ("push", 2), ("sub",)))
NOWHERE = 50


class LockChance:
    """Locks, keys and facts."""

    WORDS = ("drop", "swap", "add", "sub", "mul", "less", "same", "not", "need") + FACT_WORDS
    NUMBERS = (0, 0, 1, 1, 2, -1, 3, 10 ** 29, -10 ** 30, 10 ** 49, 10 ** 50 - 1)

    def __init__(self, seed):
        self.random = random.Random(seed)

    def row(self):
        kind = self.random.randrange(10)
        if kind < 4:
            return ("push", self.random.choice(self.NUMBERS))
        if kind < 5:
            return ("copy", self.random.randrange(4))
        if kind < 6:
            return ("paid", self.random.randrange(4))
        return (self.random.choice(self.WORDS),)

    def lock(self, count, depth):
        found = ()
        while len(found) < count:
            if depth and self.random.randrange(4) == 0:
                found += self.branch(depth - 1)
            else:
                found += (self.row(),)
        return found

    def branch(self, depth):
        found = (("if",),) + self.lock(self.random.randrange(4), depth)
        if self.random.randrange(2):
            found += (("else",),) + self.lock(self.random.randrange(4), depth)
        return found + (("end",),)

    def keys(self):
        return tuple([self.random.choice(self.NUMBERS) for turn in range(self.random.randrange(11))])

    def facts(self):
        numbers = [abs(self.random.choice(self.NUMBERS)) for turn in range(5)]
        paid = [abs(self.random.choice(self.NUMBERS)) for turn in range(self.random.randrange(5))]
        return tuple(numbers) + (tuple(paid),)


class TextChance(LockChance):
    """Deeds and blocks of all kinds, and texts that are like those that were written."""

    def places(self):
        return self.random.choice((0, 1, 7, 10, 10 ** 29, 10 ** 30))

    def some_lock(self):
        return self.lock(self.random.choice((0, 0, 1, 2, 5, 9)), 2)

    def deed(self, ins):
        parts = [((self.places(), self.places()), self.keys()) for turn in range(ins)]
        outs = [(self.places() + 1, self.some_lock()) for turn in range(self.random.randint(1, 4))]
        return (max(self.places(), 1), tuple(parts), tuple(outs))

    def block(self):
        deeds = [self.deed(0)] + [self.deed(self.random.randint(1, 4)) for turn in range(self.random.randrange(4))]
        return (max(self.places(), 1), self.places(), max(self.places(), 1), tuple(deeds))

    def like(self, text):
        """The text with a few signs or pieces taken out, put in or exchanged."""
        pieces = (
            " ", ",", ";", "|", "-", ".", "0", "1", "9", "a", "A", ", ", "; ", " | ", "in ", "out ", "push ", "end",
            "if", "on", "weight", "\n", "10", " 1", " -1", "2.0", "", "9" * 50, "9" * 60,
        )
        for turn in range(self.random.randint(1, 2)):
            start = self.random.randint(0, len(text))
            end = start + self.random.choice((0, 0, 1, 1, 2, 5))
            text = text[:start] + self.random.choice(pieces) + text[end:]
        return text


class BookChance:
    """Blocks and deeds for a book of which the telling is at hand."""

    def __init__(self, seed):
        self.random = random.Random(seed)

    def seldom(self):
        return self.random.randrange(10) == 0

    def outs(self, most):
        return [(self.random.randint(1, most), self.random.choice(LOCKS)) for turn in range(self.random.randint(1, 2))]

    def deed(self, held, strays, known):
        """One that is known, or one that spends some of the coins that are held, or strays."""
        if known and self.random.randrange(6) == 0:
            return self.random.choice(known)
        ins, worth = [], 0
        for turn in range(self.random.choice((1, 1, 1, 2))):
            coin = self.random.choice(strays if self.seldom() or not held else list(held))
            kept = held.get(coin, (5, OPEN))
            keys = (5,) if kept[1] == FIVE else ()
            ins.append((coin, (6,) if self.seldom() else keys))
            worth += kept[0]
        return (self.number(known), tuple(ins), tuple(self.outs(worth if self.seldom() else (worth + 1) // 2)))

    def number(self, known):
        return self.random.choice(known)[0] if known and self.seldom() else self.random.randint(1, 200)

    def block(self, told):
        ahead = NOWHERE if self.seldom() else self.random.choice(told.nodes()[-6:])
        held = told.at(ahead).unspent() if ahead != NOWHERE else {}
        first = maker(self.random.randint(201, 400), *self.outs(8))
        makers = [each for each in told.deeds if not each[1]]
        if makers and self.seldom():
            first = self.random.choice(makers)
        others = [each for each in told.deeds if each[1]]
        strays = [(first[0], 0)] + [coin for each in others for coin, keys in each[1]][-2:]
        deeds = [self.deed(held, strays, others) for turn in range(self.random.choice((0, 1, 1, 2)))]
        return block(self.random.randint(1, 60), ahead, self.random.randint(1, 3), first, *deeds)

    def offer(self, told):
        if self.seldom():
            return maker(self.random.randint(1, 400), *self.outs(9))
        strays = [(NOWHERE, 0)] + [(each[0], 0) for each in told.deeds][-3:]
        return self.deed(told.waited()[1].unspent(), strays, told.deeds)

    def in_another_order(self, blocks):
        """The same blocks, each behind its ahead."""
        left, found, there = list(blocks), [], [0]
        while left:
            thing = self.random.choice([thing for thing in left if thing[1] in there])
            left.remove(thing)
            found.append(thing)
            there.append(thing[0])
        return found
