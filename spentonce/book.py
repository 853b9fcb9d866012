"""A book: a tree of blocks that were put in, and what each branch comes to."""

from spentonce.blocks import block_fault, checked_block, checked_rules, do_block
from spentonce.errors import NoSuch, Other
from spentonce.hoards import Hoard, spent_by
from spentonce.tree import ROOT, Tree


class Book:
    def __init__(self, rules):
        self.rules = checked_rules(rules)
        self.tree = Tree()
        # From each node but the root to its block.
        self.blocks = {}
        # From each node to what its branch comes to: a hoard of its own, so that no branch touches another.
        self.hoards = {ROOT: Hoard()}
        # From the number of each deed that the book knows to it, in the order in which they were first known.
        self.met = {}

    def check(self, block):
        """Refuses what is refused ahead of BadBlock."""
        checked_block(block)
        self.tree.check_place(block[0], block[1])
        # The block's own deeds are met one by one, so that each is held against those ahead of it.
        met = dict(self.met)
        for deed in block[3]:
            if met.setdefault(deed[0], deed) != deed:
                raise Other("another deed has the number of one of the block's")

    def judge(self, block):
        self.check(block)
        return block_fault(self.hoards[block[1]], block, self.height(block[1]) + 1, self.rules)

    def put(self, block):
        self.check(block)
        hoard = self.hoards[block[1]].copied()
        do_block(hoard, block, self.height(block[1]) + 1, self.rules)
        return self.take_in(block, hoard)

    def take_in(self, block, hoard):
        number = block[0]
        last = self.head()
        self.tree.add(number, block[1], block[2])
        self.blocks[number] = block
        self.hoards[number] = hoard
        for deed in block[3]:
            self.met.setdefault(deed[0], deed)
        return self.way(last, self.head())

    def head(self):
        return self.tree.head()

    def height(self, number):
        return self.tree.height(number)

    def weight(self, number):
        return self.tree.weight(number)

    def branch(self, number):
        return self.tree.branch(number)

    def way(self, one, other):
        return self.tree.way(one, other)

    def block(self, number):
        if number not in self.blocks:
            raise NoSuch("there is no such block")
        return self.blocks[number]

    def hoard_at(self, number):
        if number not in self.hoards:
            raise NoSuch("there is no such node")
        return self.hoards[number]

    def coins(self, number):
        return self.hoard_at(number).held()

    def total(self, number):
        return self.hoard_at(number).total()

    def spender(self, coin, number):
        for node in self.branch(number):
            for deed in self.blocks[node][3]:
                if coin in spent_by(deed):
                    return deed[0]
        return None
