import itertools
import unittest

from chances import RULES as CHANCE_RULES
from chances import BookChance
from making import FIVE, OPEN, block, deed, lone, maker, outcome
from spentonce.book import Book
from spentonce.errors import BadBlock, CoinError, Known, NoAhead, NoBlock, NoRules, NoSuch, Other
from strange import NO_TUPLES
from telling import ToldBook, node_of

BIG = 10 ** 30
RULES = (50, 10, 0)

# 0 - 1 - 2 - 3
#       \ 4 - 5
#   \ 6
# The deed 21 stands in 2 and in 5; the coin (11, 1) is spent on the branch of 4 alone.
SPENDING = deed(21, [(11, 0)], 30)
BLOCKS = (
    block(1, 0, 1, maker(11, 40, (10, FIVE))),
    block(2, 1, 1, maker(20, 50), SPENDING, deed(22, [(21, 0)], 10, 10)),
    block(3, 2, 3, maker(30, 55), deed(31, [(22, 1), (20, 0)], 55)),
    block(4, 1, 2, maker(40, 50), deed(41, [((11, 1), (5,))], 10)),
    block(5, 4, 1, maker(50, 60), SPENDING),
    block(6, 0, 1, maker(60, 1)),
)
NODES = (0, 1, 2, 3, 4, 5, 6)
COINS = [(number, place) for number in (11, 20, 21, 22, 30, 31, 40, 41, 50, 60, 99) for place in range(3)]

TOLD_COINS = {
    0: {},
    1: {(11, 0): (40, OPEN, 1, 1), (11, 1): (10, FIVE, 1, 1)},
    2: {(11, 1): (10, FIVE, 1, 1), (20, 0): (50, OPEN, 2, 2), (22, 0): (10, OPEN, 2, 2), (22, 1): (10, OPEN, 2, 2)},
    3: {(11, 1): (10, FIVE, 1, 1), (22, 0): (10, OPEN, 2, 2), (30, 0): (55, OPEN, 3, 3), (31, 0): (55, OPEN, 3, 3)},
    4: {(11, 0): (40, OPEN, 1, 1), (40, 0): (50, OPEN, 2, 2), (41, 0): (10, OPEN, 2, 2)},
    5: {(21, 0): (30, OPEN, 3, 3), (40, 0): (50, OPEN, 2, 2), (41, 0): (10, OPEN, 2, 2), (50, 0): (60, OPEN, 3, 3)},
    6: {(60, 0): (1, OPEN, 1, 1)},
}
TOLD_SPENDERS = {
    0: {}, 1: {}, 6: {}, 2: {(11, 0): 21, (21, 0): 22}, 3: {(11, 0): 21, (21, 0): 22, (22, 1): 31, (20, 0): 31},
    4: {(11, 1): 41}, 5: {(11, 1): 41, (11, 0): 21},
}


def filled(blocks=BLOCKS, rules=RULES):
    book = Book(rules)
    for thing in blocks:
        book.put(thing)
    return book


def all_of(book, nodes=NODES, coins=COINS):
    """All that a book tells of these nodes."""
    found = [book.head()]
    for node in nodes:
        found.append((book.height(node), book.weight(node), book.branch(node), list(book.coins(node).items())))
        found.append((book.total(node), [book.spender(coin, node) for coin in coins]))
        found.append([book.way(node, other) for other in nodes])
        found.append(outcome(book.block, node))
    return found


class BookCase(unittest.TestCase):
    def is_refused(self, refusal, book, thing, nodes=NODES):
        """Refused whenever it is put in, with nothing changed; judged likewise, but for BadBlock."""
        ahead = all_of(book, nodes)
        for turn in range(2):
            with self.assertRaises(refusal) as taken:
                book.put(thing)
            self.assertIsInstance(taken.exception, CoinError)
            if refusal is BadBlock:
                self.assertIsNotNone(book.judge(thing))
            else:
                self.assertIs(outcome(book.judge, thing), refusal)
            self.assertEqual(all_of(book, nodes), ahead)

    def has_fault(self, fault, book, thing, nodes=NODES):
        self.assertEqual(book.judge(thing), fault)
        self.is_refused(BadBlock, book, thing, nodes)


class EmptyTest(BookCase):
    def test_rules(self):
        for rules in ((0, 1, 0), (10 ** 40, 1000, 1000), RULES):
            self.assertEqual(Book(rules).head(), 0)
        for rules in NO_TUPLES + [(), (50, 10), (-1, 1, 0), (50, 0, 0), (50, 10, 1001), (50, True, 0), [50, 10, 0]]:
            with self.assertRaises(NoRules) as taken:
                Book(rules)
            self.assertIsInstance(taken.exception, CoinError)

    def test_the_root(self):
        book = Book(RULES)
        self.assertEqual((book.head(), book.height(0), book.weight(0), book.branch(0)), (0, 0, 0, []))
        self.assertEqual((book.way(0, 0), book.coins(0), book.total(0)), (([], []), {}, 0))
        self.assertIsNone(book.spender((1, 0), 0))
        self.assertIs(outcome(book.block, 0), NoSuch)

    def test_books_are_apart(self):
        ahead = all_of(Book(RULES), (0,))
        filled()
        self.assertEqual(all_of(Book(RULES), (0,)), ahead)


class ToldTest(BookCase):
    def test_coins(self):
        book = filled()
        for node in NODES:
            self.assertEqual(book.coins(node), TOLD_COINS[node])

    def test_totals(self):
        book = filled()
        self.assertEqual([book.total(node) for node in NODES], [0, 50, 80, 130, 100, 150, 1])

    def test_spenders(self):
        book = filled()
        for node in NODES:
            for coin in COINS:
                with self.subTest(node=node, coin=coin):
                    self.assertEqual(book.spender(coin, node), TOLD_SPENDERS[node].get(coin))

    def test_heights_weights_branches(self):
        book = filled()
        self.assertEqual([book.height(node) for node in NODES], [0, 1, 2, 3, 2, 3, 1])
        self.assertEqual([book.weight(node) for node in NODES], [0, 1, 2, 5, 3, 4, 1])
        self.assertEqual([book.branch(node) for node in NODES], [[], [1], [1, 2], [1, 2, 3], [1, 4], [1, 4, 5], [6]])

    def test_ways(self):
        book = filled()
        self.assertEqual(book.way(3, 5), ([3, 2], [4, 5]))
        self.assertEqual(book.way(5, 6), ([5, 4, 1], [6]))
        self.assertEqual(book.way(0, 2), ([], [1, 2]))
        self.assertEqual(book.way(4, 4), ([], []))

    def test_blocks(self):
        book = filled()
        for thing in BLOCKS:
            self.assertEqual(book.block(thing[0]), thing)
        self.assertIs(outcome(book.block, 0), NoSuch)

    def test_a_node_that_is_not_there(self):
        for book in (Book(RULES), filled()):
            for node in (7, 99, BIG, 10 ** 5000):
                for call in (book.height, book.weight, book.branch, book.block, book.coins, book.total):
                    self.assertIs(outcome(call, node), NoSuch)
                self.assertIs(outcome(book.spender, (11, 0), node), NoSuch)
                self.assertIs(outcome(book.spender, (99, 0), node), NoSuch)
                for other in (0, node, node + 1):
                    self.assertIs(outcome(book.way, node, other), NoSuch)
                    self.assertIs(outcome(book.way, other, node), NoSuch)

    def test_a_block_that_was_refused_is_not_there(self):
        book = filled()
        self.assertIs(outcome(book.put, block(7, 3, 1, maker(70, 51))), BadBlock)
        for call in (book.height, book.weight, book.branch, book.block, book.coins, book.total):
            self.assertIs(outcome(call, 7), NoSuch)

    def test_the_asker_changes_dicts_and_lists(self):
        book = filled()
        ahead = all_of(book)
        for node in NODES:
            told = book.coins(node)
            told[(99, 0)] = (5, OPEN, 0, 0)
            book.coins(node).clear()
            book.branch(node).append(99)
            for other in NODES:
                for part in book.way(node, other):
                    part.append(99)
        self.assertEqual(all_of(book), ahead)
        for part in book.put(lone(7, 3)):
            part.append(99)
        self.assertEqual(book.branch(7), [1, 2, 3, 7])
        self.assertEqual(book.judge(block(8, 7, 1, maker(80, 1), deed(81, [(99, 0)], 1))), (1, "gone"))

    def test_what_was_told_stays(self):
        book = filled(BLOCKS[:2])
        told = [book.coins(2), book.branch(2), book.way(0, 2)]
        for thing in BLOCKS[2:]:
            book.put(thing)
        self.assertEqual(told, [TOLD_COINS[2], [1, 2], ([], [1, 2])])

    def test_what_is_handed_in_stays(self):
        thing = block(1, 0, 1, maker(11, 40, (10, FIVE)))
        book = Book(RULES)
        book.judge(thing)
        book.put(thing)
        self.assertEqual(thing, BLOCKS[0])


class PutTest(BookCase):
    def test_the_head_goes_on_stays_and_goes_over(self):
        book = Book(RULES)
        for thing, way, head in (
            (lone(10, 0, 2), ([], [10]), 10),
            (lone(11, 10, 1), ([], [11]), 11),
            (lone(20, 0, 1), ([], []), 11),
            (lone(21, 20, 2), ([], []), 11),
            (lone(9, 20, 2), ([11, 10], [20, 9]), 9),
            (lone(12, 11, 1), ([9, 20], [10, 11, 12]), 12),
            (lone(13, 11, 1), ([], []), 12),
            (lone(8, 11, 1), ([12], [8]), 8),
            (lone(30, 0, 5), ([8, 11, 10], [30]), 30),
            (lone(31, 30, 1), ([], [31]), 31),
            (lone(14, 12, 2), ([31, 30], [10, 11, 12, 14]), 14),
        ):
            told = book.put(thing)
            self.assertEqual(told, way)
            self.assertIsInstance(told, tuple)
            self.assertEqual(book.head(), head)

    def test_each_branch_is_told_whichever_counts(self):
        book = Book(RULES)
        for count, thing in enumerate(BLOCKS, start=1):
            book.put(thing)
            for node in [0] + [each[0] for each in BLOCKS[:count]]:
                self.assertEqual(book.coins(node), TOLD_COINS[node])

    def test_back_and_over_many_times(self):
        book = Book(RULES)
        for number in range(2, 40):
            ahead = 0 if number < 4 else number - 2
            book.put(block(number, ahead, 2, maker(100 + number, 1)))
            self.assertEqual(book.total(number), number // 2)
            self.assertEqual(book.coins(0), {})
        for number in range(2, 40):
            made = [100 + other for other in range(2 + number % 2, number + 1, 2)]
            self.assertEqual([coin[0] for coin in book.coins(number)], made)

    def test_coins_of_each_branch_are_spent_on_it(self):
        book = filled(BLOCKS[:1])
        for number in (2, 3, 4):
            book.put(block(number, 1, number, maker(number * 10, 50), deed(number * 10 + 1, [(11, 0)], 40)))
            self.assertEqual(book.spender((11, 0), number), number * 10 + 1)
        self.has_fault(
            (1, "gone"), book, block(5, 4, 1, maker(55, 1), deed(56, [(11, 0)], 40)), (0, 1, 2, 3, 4))
        self.has_fault((1, "gone"), book, block(5, 4, 1, maker(55, 1), deed(56, [(21, 0)], 40)), (0, 1, 2, 3, 4))
        self.assertIsNone(book.judge(block(5, 2, 1, maker(55, 1), deed(56, [(21, 0)], 40))))

    def test_ripe_and_gift_by_the_height_on_the_branch(self):
        book = Book((50, 2, 2))
        book.put(block(1, 0, 1, maker(11, 50)))
        book.put(block(2, 1, 1, maker(21, 50)))
        self.assertEqual(book.judge(block(3, 2, 1, maker(31, 26))), (0, "much"))
        self.assertEqual(book.judge(block(3, 1, 1, maker(31, 51))), (0, "much"))
        self.assertIsNone(book.judge(block(3, 1, 1, maker(31, 50))))
        self.assertEqual(book.judge(block(3, 1, 1, maker(31, 50), deed(32, [(11, 0)], 50))), (1, "green"))
        book.put(block(3, 2, 1, maker(31, 25), deed(32, [(11, 0)], 50)))
        self.assertEqual(book.coins(3)[(31, 0)], (25, OPEN, 3, 5))
        self.assertEqual(book.coins(3)[(32, 0)], (50, OPEN, 3, 3))

    def test_locks_by_the_height_on_the_branch(self):
        lock = (("height",), ("push", 3), ("same",))
        book = Book(RULES)
        book.put(block(1, 0, 1, maker(11, (50, lock))))
        book.put(lone(2, 1))
        spending = deed(32, [(11, 0)], 50)
        self.has_fault((1, "shut"), book, block(3, 1, 1, maker(31, 1), spending), (0, 1, 2))
        self.assertEqual(book.put(block(3, 2, 1, maker(31, 1), spending)), ([], [3]))

    def test_a_deed_in_blocks_of_two_branches(self):
        book = filled()
        self.assertEqual((book.spender((11, 0), 2), book.spender((11, 0), 5)), (21, 21))
        self.assertEqual(book.coins(5)[(21, 0)][2], 3)
        self.has_fault((1, "known"), book, block(7, 3, 1, maker(70, 1), SPENDING))

    def test_a_maker_in_blocks_of_two_branches(self):
        book = Book(RULES)
        for number in (1, 2, 3):
            book.put(block(number, 0, 1, maker(11, 50)))
            self.assertEqual(book.coins(number), {(11, 0): (50, OPEN, 1, 1)})
        self.has_fault((0, "known"), book, block(4, 3, 1, maker(11, 50)), (0, 1, 2, 3))


class RefusedTest(BookCase):
    """Each refusal, and each two at once. The block 7 on 3 is good; 40 to 41 are known of another branch."""

    SPENT = deed(71, [(11, 0)], 40)

    def test_good(self):
        book = filled()
        thing = block(7, 3, 1, maker(70, 50), deed(71, [(22, 0)], 10))
        ahead = all_of(book)
        self.assertIsNone(book.judge(thing))
        self.assertIsNone(book.judge(thing))
        self.assertEqual(all_of(book), ahead)
        self.assertEqual(book.put(thing), ([], [7]))

    def test_no_block(self):
        book = filled()
        for place, thing in enumerate(NO_TUPLES):
            with self.subTest(place=place):
                self.assertIs(outcome(book.put, thing), NoBlock)
                self.assertIs(outcome(book.judge, thing), NoBlock)
        for thing in (
            block(0, 3, 1, maker(70, 1)), block(BIG + 1, 3, 1, maker(70, 1)), block(7, -1, 1, maker(70, 1)),
            block(7, 3, 0, maker(70, 1)), block(7, 3, 1), block(7, 3, 1, deed(71, [(22, 0)], 10)),
            block(7, 3, 1, maker(70, 1), maker(71, 1)), [7, 3, 1, (maker(70, 1),)], (True, 3, 1, (maker(70, 1),)),
        ):
            self.is_refused(NoBlock, book, thing)

    def test_no_block_ahead_of_each(self):
        book = filled()
        self.is_refused(NoBlock, book, block(1, 0, 0, maker(70, 1)))
        self.is_refused(NoBlock, book, block(7, 99, 0, maker(70, 1)))
        self.is_refused(NoBlock, book, block(7, 3, 0, maker(40, 1)))
        self.is_refused(NoBlock, book, block(7, 3, 0, maker(70, 51)))

    def test_known(self):
        book = filled()
        for thing in BLOCKS:
            self.is_refused(Known, book, thing)
            self.is_refused(Known, book, block(thing[0], 3, 100, maker(70, 1)))
            self.is_refused(Known, book, block(thing[0], thing[0], 100, maker(70, 1)))

    def test_known_ahead_of_each(self):
        book = filled()
        self.is_refused(Known, book, block(3, 99, 1, maker(70, 1)))
        self.is_refused(Known, book, block(3, 2, 1, maker(40, 1)))
        self.is_refused(Known, book, block(3, 2, 1, maker(70, 51)))
        self.is_refused(Known, book, block(3, 2, 1, maker(70, 1), self.SPENT))

    def test_no_ahead(self):
        book = filled()
        for ahead in (7, 8, 99, BIG):
            self.is_refused(NoAhead, book, block(7, ahead, 1, maker(70, 1)))

    def test_no_ahead_ahead_of_each(self):
        book = filled()
        self.is_refused(NoAhead, book, block(7, 99, 1, maker(40, 1)))
        self.is_refused(NoAhead, book, block(7, 99, 1, maker(70, 51)))
        self.is_refused(NoAhead, book, block(7, 99, 1, maker(70, 1), self.SPENT))

    def test_other_of_a_block_on_the_branch(self):
        book = filled()
        self.is_refused(Other, book, block(7, 3, 1, maker(20, 49)))
        self.is_refused(Other, book, block(7, 3, 1, maker(21, 50)))
        self.is_refused(Other, book, block(7, 3, 1, maker(70, 50), deed(22, [(22, 0)], 10)))

    def test_other_of_a_block_on_another_branch(self):
        book = filled()
        self.is_refused(Other, book, block(7, 3, 1, maker(40, 49)))
        self.is_refused(Other, book, block(7, 3, 1, maker(41, 50)))
        self.is_refused(Other, book, block(7, 3, 1, maker(70, 50), deed(60, [(22, 0)], 10)))
        self.is_refused(Other, book, block(7, 3, 1, maker(70, 50), deed(71, [(22, 0)], 10), deed(50, [(71, 0)], 10)))
        self.assertIsNone(book.judge(block(7, 3, 1, maker(40, 50))))

    def test_other_by_each_part_of_a_deed(self):
        book = filled()
        for thing in (
            deed(41, [((11, 1), (5,))], 9), deed(41, [((11, 1), (0, 5))], 10), deed(41, [((11, 1), (5,))], (10, FIVE)),
            deed(41, [((11, 0), (5,))], 10), deed(41, [((11, 1), (5,))], 5, 5),
        ):
            self.is_refused(Other, book, block(7, 2, 1, maker(70, 1), thing))
        self.assertIsNone(book.judge(block(7, 2, 1, maker(70, 1), deed(41, [((11, 1), (5,))], 10))))

    def test_other_in_the_block_itself(self):
        book = filled()
        good = deed(71, [(22, 0)], 10)
        self.is_refused(Other, book, block(7, 3, 1, maker(70, 1), good, deed(71, [(71, 0)], 10)))
        self.is_refused(Other, book, block(7, 3, 1, maker(70, 1), good, deed(72, [(71, 0)], 9), deed(71, [(72, 0)], 9)))
        self.is_refused(Other, book, block(7, 3, 1, maker(70, 1), deed(70, [(22, 0)], 10)))
        self.is_refused(Other, book, block(7, 3, 1, maker(70, 1), good, good, deed(71, [(22, 0)], 9)))

    def test_other_ahead_of_bad_block(self):
        book = filled()
        self.is_refused(Other, book, block(7, 3, 1, maker(40, 51)))
        self.is_refused(Other, book, block(7, 3, 1, maker(70, 1), self.SPENT, deed(60, [(22, 0)], 10)))
        self.is_refused(Other, book, block(7, 3, 1, maker(70, 500), deed(60, [(22, 0)], 10)))
        self.is_refused(Other, book, block(7, 3, 1, maker(20, 50), deed(60, [(22, 0)], 10)))

    def test_a_deed_that_stands_twice_in_one_block(self):
        book = filled()
        good = deed(71, [(22, 0)], 10)
        self.has_fault((2, "known"), book, block(7, 3, 1, maker(70, 1), good, good))
        self.has_fault((3, "known"), book, block(7, 3, 1, maker(70, 1), good, deed(72, [(71, 0)], 10), good))

    def test_bad_block(self):
        book = filled()
        for fault, deeds in (
            ((0, "known"), (maker(20, 50),)), ((1, "known"), (maker(70, 1), SPENDING)),
            ((1, "twice"), (maker(70, 1), deed(71, [(22, 0), (22, 0)], 10))), ((1, "gone"), (maker(70, 1), self.SPENT)),
            ((1, "shut"), (maker(70, 1), deed(71, [(11, 1)], 10))),
            ((1, "less"), (maker(70, 1), deed(71, [(22, 0)], 11))),
            ((0, "much"), (maker(70, 51),)), ((1, "gone"), (maker(70, 51), deed(71, [(40, 0)], 1))),
        ):
            with self.subTest(fault=fault):
                self.has_fault(fault, book, block(7, 3, 1, *deeds))
        unripe = block(1, 0, 1, maker(1, 50), deed(2, [(1, 0)], 50))
        self.has_fault((1, "green"), Book((50, 10, 1)), unripe, (0,))

    def test_deeds_of_refused_blocks_are_not_known(self):
        book = filled()
        self.is_refused(BadBlock, book, block(7, 3, 1, maker(70, 51), deed(71, [(22, 0)], 10)))
        self.is_refused(Other, book, block(7, 3, 1, maker(70, 50), deed(60, [(22, 0)], 10)))
        self.is_refused(NoAhead, book, block(7, 9, 1, maker(70, 50)))
        self.assertIsNone(book.judge(block(7, 3, 1, maker(70, 49), deed(71, [(22, 0)], 9))))
        self.assertEqual(book.put(block(7, 3, 1, maker(70, 48), deed(71, [(22, 0)], 8))), ([], [7]))

    def test_refused_once_and_put_in_later(self):
        book = Book(RULES)
        self.is_refused(NoAhead, book, BLOCKS[1], (0,))
        book.put(BLOCKS[0])
        self.assertEqual(book.put(BLOCKS[1]), ([], [2]))


def orders(blocks):
    """Each order of blocks in which each one comes behind its ahead."""
    for order in itertools.permutations(blocks):
        places = {thing[0]: place for place, thing in enumerate(order)}
        if all([thing[1] == 0 or places[thing[1]] < place for place, thing in enumerate(order)]):
            yield order


class ManyTest(unittest.TestCase):
    def test_a_book_of_60_blocks_and_200_deeds(self):
        book = Book((10 ** 40, 1000, 0))
        for number in range(1, 61):
            ahead = max(number - 3, 0)
            deeds = [maker(10 * number, *[9] * 8), deed(10 * number + 1, [(10 * number, 0)], *[1] * 8)]
            if number % 3:
                deeds.append(deed(10 * number + 2, [(10 * number + 1, place) for place in range(8)], *[1] * 7))
                deeds.append(deed(10 * number + 3, [(10 * number + 2, 0)], 1))
            book.put(block(number, ahead, 1, *deeds))
        self.assertEqual(book.head(), 58)
        self.assertEqual([book.total(number) for number in (58, 59, 60)], [1400, 1400, 1420])
        self.assertEqual([len(book.coins(number)) for number in (58, 59, 60)], [280, 280, 300])
        self.assertEqual(book.spender((10, 0), 58), 11)
        self.assertIsNone(book.spender((10, 0), 59))


class OrderTest(BookCase):
    def test_the_same_blocks_in_each_order(self):
        told = all_of(filled())
        count = 0
        for order in orders(BLOCKS):
            book = Book(RULES)
            for thing in order:
                last = book.head()
                self.assertEqual(book.put(thing), book.way(last, book.head()))
            self.assertEqual(all_of(book), told)
            count += 1
        self.assertEqual(count, 36)

    def test_heads_of_one_weight_in_each_order(self):
        blocks = [lone(5, 0, 3), lone(2, 0, 3), lone(9, 0, 1), lone(3, 9, 2), lone(4, 9, 1)]
        for order in orders(blocks):
            book = Book(RULES)
            came = []
            for thing in order:
                book.put(thing)
                came.append(thing[0])
                most = max([book.weight(node) for node in came])
                self.assertEqual(book.head(), min([node for node in came if book.weight(node) == most]))
            self.assertEqual(book.head(), 2)


class ChanceTest(unittest.TestCase):
    """Blocks by chance beside a telling in which each branch is done anew for each question."""

    def test_blocks_by_chance(self):
        chance, outcomes = BookChance(4), {}
        for turn in range(60):
            rules = CHANCE_RULES[turn % 3]
            book, told = Book(rules), ToldBook(rules)
            for step in range(40):
                thing = chance.block(told)
                judged = told.judged(thing)
                outcomes[judged] = outcomes.get(judged, 0) + 1
                self.assertEqual(outcome(book.judge, thing), judged)
                self.assertEqual(outcome(book.put, thing), told.put(thing))
                self.assertEqual(book.head(), told.head())
            self.compare(book, told)
            self.compare(filled(chance.in_another_order(told.blocks.values()), rules), told)
        for judged in (None, Known, NoAhead, Other, (0, "much"), (0, "known"), (1, "known"), (1, "gone"), (1, "green"),
                       (1, "shut"), (1, "less"), (1, "twice"), (2, "gone")):
            self.assertGreater(outcomes.get(judged, 0), 5, judged)

    def compare(self, book, told):
        self.assertEqual(book.head(), told.head())
        for number in told.nodes():
            self.assertEqual(node_of(book, number, told.coins()), told.node(number))
            self.assertLessEqual(book.total(number), told.at(number).gifts)


if __name__ == "__main__":
    unittest.main()
