"""A tree of nodes, each put on an earlier one, and its branches."""

from spentonce.errors import Known, NoAhead, NoSuch

ROOT = 0

# The parts of what is told of a node.
AHEAD = 0
HEIGHT = 1
WEIGHT = 2


class Tree:
    def __init__(self):
        # From each node, in the order in which they came, to the node ahead, its height and its weight.
        self.standing = {ROOT: (None, 0, 0)}
        self.heaviest = ROOT

    # No refusal shows the number: Python refuses to write very long ones.

    def check_place(self, number, ahead):
        if self.has(number):
            raise Known("the node is there already")
        if not self.has(ahead):
            raise NoAhead("the node to put it on isn't there")

    def add(self, number, ahead, weight):
        self.check_place(number, ahead)
        self.standing[number] = (ahead, self.height(ahead) + 1, self.weight(ahead) + weight)
        self.heaviest = min(self.heaviest, number, key=self.rank)

    def rank(self, number):
        # The number is looked at too, so that no two nodes rank alike and none is the head for having come first.
        return (-self.weight(number), number)

    def has(self, number):
        return number in self.standing

    def nodes(self):
        return list(self.standing)

    def told_of(self, number):
        if not self.has(number):
            raise NoSuch("there is no such node")
        return self.standing[number]

    def height(self, number):
        return self.told_of(number)[HEIGHT]

    def weight(self, number):
        return self.told_of(number)[WEIGHT]

    def ahead(self, number):
        return self.told_of(number)[AHEAD]

    def branch(self, number):
        return list(reversed(self.down(number, ROOT)))

    def head(self):
        return self.heaviest

    def meeting(self, one, other):
        while self.height(one) > self.height(other):
            one = self.ahead(one)
        while self.height(other) > self.height(one):
            other = self.ahead(other)
        while one != other:
            one = self.ahead(one)
            other = self.ahead(other)
        return one

    def way(self, one, other):
        last = self.meeting(one, other)
        return (self.down(one, last), list(reversed(self.down(other, last))))

    def down(self, number, last):
        """The nodes from this one down to the first behind the last one, which is on its branch or the root."""
        found = []
        while number != last:
            found.append(number)
            number = self.ahead(number)
        return found
