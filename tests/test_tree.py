import itertools
import random
import unittest

from making import outcome
from spentonce.errors import CoinError, Known, NoAhead, NoSuch
from spentonce.tree import Tree

# 0 - 1 - 2 - 3
#       \ 4 - 5 - 6
#   \ 7
ADDED = ((1, 0, 5), (2, 1, 1), (3, 2, 1), (4, 1, 1), (5, 4, 1), (6, 5, 10), (7, 0, 2))


def grown(added=ADDED):
    tree = Tree()
    for row in added:
        tree.add(*row)
    return tree


def all_of(tree):
    nodes = sorted(tree.nodes())
    found = [(node, tree.height(node), tree.weight(node), tree.ahead(node), tree.branch(node)) for node in nodes]
    ways = [(tree.meeting(one, other), tree.way(one, other)) for one in nodes for other in nodes]
    return (tree.head(), found, ways)


class NodesTest(unittest.TestCase):
    def test_the_root_alone(self):
        tree = Tree()
        self.assertEqual(tree.nodes(), [0])
        self.assertIs(tree.has(0), True)
        self.assertIs(tree.has(1), False)
        self.assertEqual((tree.height(0), tree.weight(0), tree.head()), (0, 0, 0))
        self.assertIsNone(tree.ahead(0))
        self.assertEqual(tree.branch(0), [])
        self.assertEqual(tree.meeting(0, 0), 0)
        self.assertEqual(tree.way(0, 0), ([], []))

    def test_add_tells_none(self):
        self.assertIsNone(Tree().add(1, 0, 1))

    def test_nodes_in_the_order_in_which_they_came(self):
        self.assertEqual(grown().nodes(), [0, 1, 2, 3, 4, 5, 6, 7])
        self.assertEqual(grown(((9, 0, 1), (3, 9, 1), (5, 0, 1), (4, 3, 1))).nodes(), [0, 9, 3, 5, 4])

    def test_has(self):
        tree = grown()
        for node in range(8):
            self.assertIs(tree.has(node), True)
        for node in (8, 10 ** 30, 10 ** 5000):
            self.assertIs(tree.has(node), False)

    def test_heights_weights_and_aheads(self):
        tree = grown()
        self.assertEqual([tree.height(node) for node in range(8)], [0, 1, 2, 3, 2, 3, 4, 1])
        self.assertEqual([tree.weight(node) for node in range(8)], [0, 5, 6, 7, 6, 7, 17, 2])
        self.assertEqual([tree.ahead(node) for node in range(8)], [None, 0, 1, 2, 1, 4, 5, 0])

    def test_great_numbers(self):
        tree = grown(((10 ** 5000, 0, 10 ** 4999), (3, 10 ** 5000, 1)))
        self.assertEqual(tree.weight(3), 10 ** 4999 + 1)
        self.assertEqual(tree.branch(3), [10 ** 5000, 3])
        self.assertEqual(tree.head(), 3)

    def test_a_long_branch(self):
        tree = grown([(node, node - 1, 1) for node in range(1, 5001)])
        tree.add(9000, 0, 1)
        self.assertEqual((tree.height(5000), tree.weight(5000), tree.head()), (5000, 5000, 5000))
        self.assertEqual(tree.branch(5000), list(range(1, 5001)))
        self.assertEqual(tree.way(5000, 9000), (list(range(5000, 0, -1)), [9000]))
        self.assertEqual(tree.meeting(5000, 4000), 4000)

    def test_trees_are_apart(self):
        tree = grown()
        self.assertEqual(Tree().nodes(), [0])
        self.assertEqual(tree.head(), 6)


class RefusedTest(unittest.TestCase):
    def is_refused(self, refusal, call, *things):
        with self.assertRaises(refusal) as taken:
            call(*things)
        self.assertIsInstance(taken.exception, CoinError)

    def test_known(self):
        tree = grown()
        ahead = all_of(tree)
        for number in range(8):
            for other in range(8):
                self.is_refused(Known, tree.add, number, other, 100)
        self.assertEqual(all_of(tree), ahead)
        self.assertEqual(tree.nodes(), [0, 1, 2, 3, 4, 5, 6, 7])

    def test_the_root_again(self):
        tree = Tree()
        self.is_refused(Known, tree.add, 0, 0, 1)
        self.is_refused(Known, tree.add, 0, 5, 1)
        self.assertEqual((tree.nodes(), tree.weight(0)), ([0], 0))

    def test_no_ahead(self):
        tree = grown()
        ahead = all_of(tree)
        for other in (8, 9, 10 ** 30, 10 ** 5000):
            self.is_refused(NoAhead, tree.add, 9, other, 100)
        self.assertEqual(all_of(tree), ahead)
        self.assertFalse(tree.has(9))

    def test_known_ahead_of_no_ahead(self):
        tree = grown()
        for number in range(8):
            self.is_refused(Known, tree.add, number, 99, 1)

    def test_refused_once_and_put_on_later(self):
        tree = Tree()
        self.is_refused(NoAhead, tree.add, 2, 1, 1)
        tree.add(1, 0, 1)
        tree.add(2, 1, 1)
        self.assertEqual(tree.branch(2), [1, 2])

    def test_no_such(self):
        tree = grown()
        for number in (8, 99, 10 ** 30, 10 ** 5000):
            for call in (tree.height, tree.weight, tree.ahead, tree.branch):
                self.is_refused(NoSuch, call, number)
            for call in (tree.meeting, tree.way):
                self.is_refused(NoSuch, call, number, number)
                self.is_refused(NoSuch, call, number, number + 1)
                for other in range(8):
                    self.is_refused(NoSuch, call, number, other)
                    self.is_refused(NoSuch, call, other, number)


class HeadTest(unittest.TestCase):
    def test_the_greatest_weight(self):
        tree = Tree()
        for row, head in (
            ((5, 0, 3), 5), ((6, 0, 2), 5), ((7, 6, 2), 7), ((8, 5, 1), 7), ((4, 5, 1), 4), ((9, 8, 1), 9),
            ((3, 9, 1), 3),
        ):
            tree.add(*row)
            self.assertEqual(tree.head(), head)

    def test_a_short_heavy_branch(self):
        self.assertEqual(grown(((1, 0, 1), (2, 1, 1), (3, 2, 1), (9, 0, 4))).head(), 9)

    def test_one_weight_in_each_order(self):
        rows = [(5, 0, 3), (2, 0, 3), (9, 0, 3), (4, 0, 2)]
        for order in itertools.permutations(rows):
            tree = Tree()
            came = []
            for row in order:
                tree.add(*row)
                came.append(row)
                self.assertEqual(tree.head(), min(came, key=lambda each: (-each[2], each[0]))[0])

    def test_one_weight_on_two_branches_in_each_order(self):
        rows = [(1, 0, 2), (8, 1, 2), (2, 0, 1), (6, 2, 1), (7, 6, 2)]
        for order in itertools.permutations(rows):
            tree, waiting = Tree(), list(order)
            while waiting:
                row = [each for each in waiting if tree.has(each[1])][0]
                waiting.remove(row)
                tree.add(*row)
            self.assertEqual(tree.head(), 7)


class BranchTest(unittest.TestCase):
    def test_branches(self):
        tree = grown()
        told = [[], [1], [1, 2], [1, 2, 3], [1, 4], [1, 4, 5], [1, 4, 5, 6], [7]]
        self.assertEqual([tree.branch(node) for node in range(8)], told)

    def test_meetings(self):
        tree = grown()
        for one, other, met in (
            (3, 6, 1), (3, 4, 1), (2, 6, 1), (3, 2, 2), (3, 1, 1), (6, 4, 4), (7, 6, 0), (7, 1, 0), (0, 6, 0),
            (0, 0, 0), (6, 6, 6), (1, 1, 1), (5, 6, 5),
        ):
            with self.subTest(one=one, other=other):
                self.assertEqual(tree.meeting(one, other), met)
                self.assertEqual(tree.meeting(other, one), met)

    def test_ways(self):
        tree = grown()
        for one, other, back, over in (
            (3, 6, [3, 2], [4, 5, 6]), (6, 3, [6, 5, 4], [2, 3]), (3, 1, [3, 2], []), (1, 3, [], [2, 3]),
            (6, 7, [6, 5, 4, 1], [7]), (7, 6, [7], [1, 4, 5, 6]), (0, 6, [], [1, 4, 5, 6]), (6, 0, [6, 5, 4, 1], []),
            (0, 0, [], []), (5, 5, [], []), (2, 4, [2], [4]), (0, 7, [], [7]),
        ):
            with self.subTest(one=one, other=other):
                told = tree.way(one, other)
                self.assertEqual(told, (back, over))
                self.assertIsInstance(told, tuple)

    def test_the_asker_changes_lists(self):
        tree = grown()
        ahead = all_of(tree)
        for turn in range(2):
            tree.nodes().append(99)
            tree.nodes().clear()
            tree.branch(6).reverse()
            tree.branch(0).append(5)
            for part in tree.way(3, 6) + tree.way(5, 5) + tree.way(0, 6):
                part.append(9)
            self.assertEqual(all_of(tree), ahead)
            self.assertEqual(tree.nodes(), [0, 1, 2, 3, 4, 5, 6, 7])
        self.assertFalse(tree.has(99))

    def test_what_was_told_stays(self):
        tree = grown(ADDED[:4])
        nodes, branch, way = tree.nodes(), tree.branch(3), tree.way(3, 4)
        for row in ADDED[4:]:
            tree.add(*row)
        self.assertEqual((nodes, branch, way), ([0, 1, 2, 3, 4], [1, 2, 3], ([3, 2], [4])))


class ChanceTest(unittest.TestCase):
    """Trees by chance, the same ones each time, beside branches that are written out."""

    def test_trees_by_chance(self):
        chance = random.Random(3)
        for turn in range(60):
            tree, branches, weights = Tree(), {0: []}, {0: 0}
            for step in range(chance.randint(1, 30)):
                number, ahead, weight = chance.randint(0, 40), chance.randint(0, 40), chance.randint(1, 3)
                told = Known if number in branches else None if ahead in branches else NoAhead
                self.assertIs(outcome(tree.add, number, ahead, weight), told)
                if told is None:
                    branches[number] = branches[ahead] + [number]
                    weights[number] = weights[ahead] + weight
                most = max(weights.values())
                self.assertEqual(tree.head(), min([node for node in weights if weights[node] == most]))
            self.assertEqual(tree.nodes(), list(branches))
            self.compare(tree, branches, weights)

    def compare(self, tree, branches, weights):
        for one, branch in branches.items():
            told = (tree.branch(one), tree.height(one), tree.weight(one))
            self.assertEqual(told, (branch, len(branch), weights[one]))
            for other, second in branches.items():
                both = [node for node in branch if node in second]
                self.assertEqual(tree.meeting(one, other), ([0] + both)[-1])
                back = [node for node in branch if node not in both][::-1]
                self.assertEqual(tree.way(one, other), (back, [node for node in second if node not in both]))


if __name__ == "__main__":
    unittest.main()
