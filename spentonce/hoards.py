"""A hoard: coins that are unspent, and the deeds that were done in it."""

from spentonce.deeds import is_maker, made_by, worth_of
from spentonce.errors import NoFit
from spentonce.trying import opens

# The parts of what is told of a coin that is held.
WORTH = 0
LOCK = 1
MADE = 2
FREE = 3


class Hoard:
    def __init__(self):
        # From each coin to its worth, its lock, the height at which it was made, and that from which it is free.
        self.unspent = {}
        # From the number of each deed that was done, and not undone, to True.
        self.done = {}

    def copied(self):
        other = Hoard()
        other.unspent = dict(self.unspent)
        other.done = dict(self.done)
        return other

    def held(self):
        # Sorted, so that not even the order of the coins tells of deeds that were undone.
        return dict(sorted(self.unspent.items()))

    def total(self):
        return sum([kept[WORTH] for kept in self.unspent.values()])

    def did(self, number):
        return number in self.done

    def fault(self, deed, height):
        if self.did(deed[0]):
            return "known"
        if has_twice(spent_by(deed)):
            return "twice"
        for part in deed[1]:
            word = self.fault_of_in(part, deed, height)
            if word is not None:
                return word
        if not is_maker(deed) and worth_of(deed) > self.worth_spent(deed):
            return "less"
        return None

    def fault_of_in(self, part, deed, height):
        kept = self.unspent.get(part[0])
        if kept is None:
            return "gone"
        if height < kept[FREE]:
            return "green"
        if not opens(kept[LOCK], part[1], facts_of(kept, deed, height)):
            return "shut"
        return None

    def fee(self, deed):
        return 0 if is_maker(deed) else self.worth_spent(deed) - worth_of(deed)

    def worth_spent(self, deed):
        return sum([self.unspent[coin][WORTH] for coin in spent_by(deed)])

    def do(self, deed, height, free):
        word = self.fault(deed, height)
        if word is not None:
            raise NoFit(f"the deed has the fault {word}")
        # A note is the deed, and what was held of each coin that it spends.
        note = (deed, tuple([(coin, self.unspent[coin]) for coin in spent_by(deed)]))
        for coin in spent_by(deed):
            self.unspent.pop(coin)
        for coin, out in zip(made_by(deed), deed[2]):
            self.unspent[coin] = (out[0], out[1], height, free)
        self.done[deed[0]] = True
        return note

    def undo(self, note):
        deed = note[0]
        for coin in made_by(deed):
            self.unspent.pop(coin)
        for coin, kept in note[1]:
            self.unspent[coin] = kept
        self.done.pop(deed[0])


def spent_by(deed):
    return [part[0] for part in deed[1]]


def has_twice(coins):
    return len(set(coins)) < len(coins)


def facts_of(kept, deed, height):
    # A coin may have been made at a greater height than the one asked.
    age = max(height - kept[MADE], 0)
    paid = tuple([out[0] for out in deed[2]])
    return (height, age, kept[WORTH], len(deed[1]), len(deed[2]), paid)
