import unittest

from chances import RULES as CHANCE_RULES
from chances import BookChance
from making import FIVE, OPEN, block, deed, lone, maker, outcome
from spentonce.book import Book
from spentonce.errors import BadBlock, CoinError, Known, NoAhead, NoBlock, NoDeed, NoFit, NoRules, NoSuch, Other
from spentonce.waiting import Pool
from strange import NO_TUPLES
from telling import ToldBook, node_of

BIG = 10 ** 30
RULES = (50, 10, 0)

# Four coins of 10 that open without keys, and one of 5 that the key 5 opens.
FIRST = block(1, 0, 1, maker(11, 10, 10, 10, 10, (5, FIVE)))
NUMBERS = (1, 2, 3, 4, 5, 11, 20, 21, 22, 23, 24, 30, 31, 32, 40, 41, 99)


def all_of(pool):
    """All that a pool tells of itself."""
    found = [pool.head(), pool.waiting(), pool.known()]
    for number in NUMBERS:
        found.append((outcome(pool.deed, number), outcome(pool.where, number), outcome(pool.block, number)))
        found.append((outcome(pool.coins, number), outcome(pool.branch, number), outcome(pool.weight, number)))
        found.append((outcome(pool.total, number), outcome(pool.spender, (11, 0), number)))
    return found


class PoolCase(unittest.TestCase):
    def setUp(self):
        self.pool = Pool(RULES)
        self.pool.put(FIRST)

    def waits(self, *numbers):
        self.assertEqual(self.pool.waiting(), list(numbers))

    def knows(self, *numbers):
        self.assertEqual(self.pool.known(), list(numbers))

    def takes(self, *things):
        for thing in things:
            ahead = self.pool.waiting(), self.pool.known()
            self.assertIsNone(self.pool.offer(thing))
            self.assertEqual(self.pool.waiting(), ahead[0] + [thing[0]])
            self.assertEqual(self.pool.known(), ahead[1] + [thing[0]])
            self.assertEqual(self.pool.deed(thing[0]), thing)

    def refuses(self, refusal, *things):
        for thing in things:
            ahead = all_of(self.pool)
            for turn in range(2):
                with self.assertRaises(refusal) as taken:
                    self.pool.offer(thing)
                self.assertIsInstance(taken.exception, CoinError)
                self.assertEqual(all_of(self.pool), ahead)


class EmptyTest(unittest.TestCase):
    def test_a_pool_is_a_book(self):
        self.assertTrue(issubclass(Pool, Book))
        pool = Pool(RULES)
        self.assertEqual((pool.head(), pool.height(0), pool.coins(0), pool.total(0)), (0, 0, {}, 0))

    def test_rules(self):
        for rules in NO_TUPLES + [(), (50, 10), (-1, 1, 0), (50, 0, 0), (50, 10, 1001), (50, True, 0), [50, 10, 0]]:
            self.assertIs(outcome(Pool, rules), NoRules)

    def test_nothing_is_known_and_nothing_waits(self):
        pool = Pool(RULES)
        self.assertEqual((pool.known(), pool.waiting()), ([], []))
        self.assertIs(outcome(pool.deed, 1), NoSuch)
        self.assertIs(outcome(pool.where, 1), NoSuch)

    def test_no_deed_fits_an_empty_book(self):
        pool = Pool(RULES)
        self.assertIs(outcome(pool.offer, deed(1, [(2, 0)], 1)), NoFit)
        self.assertIs(outcome(pool.offer, maker(1, 1)), NoFit)
        self.assertEqual((pool.known(), pool.waiting()), ([], []))

    def test_pools_are_apart(self):
        first, second = Pool(RULES), Pool(RULES)
        first.put(FIRST)
        first.offer(deed(21, [(11, 0)], 10))
        self.assertEqual((second.known(), second.waiting(), second.head()), ([], [], 0))
        second.put(FIRST)
        self.assertIsNone(second.offer(deed(21, [(11, 0)], 9)))


class KnownTest(PoolCase):
    """Point 24: what a book knows, and in which order."""

    def test_by_blocks(self):
        self.pool.put(block(2, 1, 1, maker(90, 1), deed(25, [(11, 0)], 10), deed(22, [(25, 0)], 10)))
        self.pool.put(block(3, 0, 1, maker(12, 1)))
        self.knows(11, 90, 25, 22, 12)

    def test_by_offers(self):
        self.takes(deed(30, [(11, 0)], 10), deed(22, [(11, 1)], 10), deed(26, [(22, 0)], 10))
        self.knows(11, 30, 22, 26)

    def test_by_both(self):
        self.takes(deed(30, [(11, 0)], 10))
        self.pool.put(block(3, 1, 1, maker(90, 1), deed(29, [(11, 1)], 10)))
        self.takes(deed(28, [(11, 2)], 10))
        self.pool.put(block(2, 3, 1, maker(89, 1)))
        self.knows(11, 30, 90, 29, 28, 89)

    def test_blocks_that_bring_what_was_offered_ahead(self):
        one, two, three = deed(30, [(11, 0)], 10), deed(31, [(11, 1)], 10), deed(20, [(11, 2)], 10)
        self.takes(one, two)
        self.pool.put(block(2, 1, 1, maker(90, 1), three, two, one))
        self.knows(11, 30, 31, 90, 20)

    def test_one_deed_in_blocks_of_two_branches(self):
        one, two, three = deed(30, [(11, 0)], 10), deed(31, [(11, 1)], 10), deed(32, [(11, 2)], 10)
        self.pool.put(block(2, 1, 1, maker(90, 1), one, two))
        self.pool.put(block(3, 1, 1, maker(91, 1), two, three, one))
        self.knows(11, 90, 30, 31, 91, 32)

    def test_a_maker_in_blocks_of_two_branches(self):
        self.pool.put(lone(2, 1))
        self.pool.put(block(3, 0, 1, maker(11, 10, 10, 10, 10, (5, FIVE))))
        self.knows(11, 1002)

    def test_on_a_branch_that_does_not_count(self):
        self.pool.put(lone(2, 1, 5))
        self.pool.put(block(3, 0, 1, maker(90, 1), deed(91, [(90, 0)], 1)))
        self.knows(11, 1002, 90, 91)

    def test_each_from_then_on_alone(self):
        self.pool.judge(block(2, 1, 1, maker(90, 1), deed(25, [(11, 0)], 10)))
        self.assertIs(outcome(self.pool.put, block(2, 1, 1, maker(90, 51))), BadBlock)
        self.assertIs(outcome(self.pool.put, block(2, 1, 1, maker(90, 1), deed(25, [(99, 0)], 10))), BadBlock)
        self.assertIs(outcome(self.pool.put, block(1, 0, 1, maker(90, 1))), Known)
        self.assertIs(outcome(self.pool.put, block(2, 9, 1, maker(90, 1))), NoAhead)
        self.assertIs(outcome(self.pool.put, block(2, 1, 1, maker(90, 1), deed(11, [(11, 0)], 10))), Other)
        self.assertIs(outcome(self.pool.put, block(2, 1, 0, maker(90, 1))), NoBlock)
        self.assertIs(outcome(self.pool.offer, deed(25, [(99, 0)], 10)), NoFit)
        self.knows(11)
        self.takes(deed(25, [(11, 0)], 9), deed(90, [(11, 1)], 9))

    def test_deed(self):
        one, two = deed(30, [((11, 4), (5,))], 4), deed(31, [(11, 1)], (10, FIVE))
        self.takes(one)
        self.pool.put(block(2, 1, 1, maker(90, 1), two))
        for thing in (FIRST[3][0], one, maker(90, 1), two):
            self.assertEqual(self.pool.deed(thing[0]), thing)

    def test_what_is_not_known(self):
        self.takes(deed(30, [(11, 0)], 10))
        self.assertIs(outcome(self.pool.offer, deed(31, [(11, 0)], 10)), NoFit)
        for number in (1, 2, 10, 12, 31, 99, BIG, 10 ** 5000):
            self.assertIs(outcome(self.pool.deed, number), NoSuch)
            self.assertIs(outcome(self.pool.where, number), NoSuch)


class WhereTest(PoolCase):
    def test_in_no_block(self):
        self.takes(deed(30, [(11, 0)], 10))
        self.assertEqual(self.pool.where(30), [])

    def test_in_one_block(self):
        self.pool.put(block(2, 1, 1, maker(90, 1), deed(30, [(11, 0)], 10)))
        self.assertEqual([self.pool.where(number) for number in (11, 90, 30)], [[1], [2], [2]])

    def test_in_several_blocks(self):
        one = deed(30, [(11, 0)], 10)
        self.takes(one)
        for number in (9, 4, 100, 7, 20):
            self.pool.put(block(number, 1, number % 3 + 1, maker(1000 + number, 1), one))
        self.pool.put(lone(5, 1))
        self.assertEqual(self.pool.where(30), [4, 7, 9, 20, 100])
        self.assertEqual(self.pool.where(1100), [100])
        self.assertEqual(self.pool.where(11), [1])

    def test_of_a_maker_in_several_blocks(self):
        for number in (5, 3, 4):
            self.pool.put(block(number, 0, 1, FIRST[3][0]))
        self.assertEqual(self.pool.where(11), [1, 3, 4, 5])

    def test_the_number_of_a_block_is_none_of_a_deed(self):
        self.pool.put(lone(30, 1))
        self.assertIs(outcome(self.pool.where, 30), NoSuch)


class HeightTest(PoolCase):
    """Point 25: the height is one more than the head's."""

    def coin(self, lock, rules=RULES):
        self.pool = Pool(rules)
        self.pool.put(block(1, 0, 1, maker(11, (10, lock), 10)))

    def test_locks_that_look_at_the_height(self):
        for height in (1, 2, 3, 4):
            self.coin((("height",), ("push", height), ("same",)))
            for count in (1, 2, 3):
                thing = deed(30 + count, [(11, 0)], 10)
                if count + 1 == height:
                    self.takes(thing)
                else:
                    self.refuses(NoFit, thing)
                self.pool.put(lone(count + 1, count))

    def test_what_waits_at_one_height_alone(self):
        self.coin((("height",), ("push", 3), ("same",)))
        self.pool.put(lone(2, 1))
        self.takes(deed(30, [(11, 0)], 10))
        self.pool.put(lone(3, 2))
        self.waits()
        self.pool.put(lone(4, 1, 9))
        self.waits(30)
        self.pool.put(lone(5, 4))
        self.waits()

    def test_locks_that_look_at_the_age(self):
        self.coin((("age",), ("push", 1), ("same",)))
        self.takes(deed(30, [(11, 0)], 10))
        self.pool.put(lone(2, 1))
        self.waits()
        self.coin((("age",), ("push", 2), ("same",)))
        self.refuses(NoFit, deed(30, [(11, 0)], 10))
        self.pool.put(lone(2, 1))
        self.takes(deed(30, [(11, 0)], 10))

    def test_the_age_of_coins_of_deeds_that_wait(self):
        young = (("age",), ("not",))
        self.takes(deed(30, [(11, 0)], (10, young)), deed(31, [(30, 0)], 10))
        self.pool.put(lone(2, 1))
        self.waits(30, 31)
        self.pool.put(block(3, 2, 1, maker(90, 1), deed(30, [(11, 0)], (10, young))))
        self.waits()

    def test_coins_that_are_green(self):
        self.coin(OPEN, (50, 10, 3))
        thing = deed(30, [(11, 1)], 10)
        for count in (1, 2):
            self.refuses(NoFit, thing)
            self.pool.put(lone(count + 1, count))
        self.takes(thing)

    def test_coins_that_are_green_on_the_other_branch(self):
        self.coin(OPEN, (50, 10, 2))
        self.pool.put(lone(2, 1))
        self.takes(deed(30, [(11, 0)], 10))
        self.pool.put(block(3, 0, 5, maker(11, (10, OPEN), 10)))
        self.waits()
        self.pool.put(lone(4, 3))
        self.waits(30)

    def test_coins_of_deeds_that_wait_are_free(self):
        self.pool = Pool((50, 10, 2))
        self.pool.put(block(1, 0, 1, maker(11, 10)))
        self.pool.put(lone(2, 1))
        self.takes(deed(30, [(11, 0)], 10), deed(31, [(30, 0)], 10), deed(32, [(31, 0)], 10))

    def test_a_maker_of_a_ripe_book_at_the_head(self):
        self.pool = Pool((50, 10, 1))
        self.pool.put(block(1, 0, 1, maker(11, 10)))
        self.takes(deed(30, [(11, 0)], 10))


class WaitingTest(PoolCase):
    """Point 25: which deeds wait, and how they are told."""

    def test_coins_of_deeds_that_wait_ahead(self):
        self.takes(deed(30, [(11, 0)], 5, 5), deed(20, [(30, 1)], 5), deed(31, [(30, 0), (20, 0)], 10))
        self.waits(30, 20, 31)

    def test_coins_of_deeds_that_are_known_later(self):
        later = deed(31, [(30, 0)], 10)
        self.refuses(NoFit, later)
        self.takes(deed(30, [(11, 0)], 10), later)
        self.waits(30, 31)

    def test_coins_that_one_that_waits_spends(self):
        self.takes(deed(30, [(11, 0)], 10))
        self.refuses(NoFit, deed(31, [(11, 0)], 10), deed(31, [(11, 1), (11, 0)], 10))

    def test_the_first_known_of_two_that_spend_one_coin(self):
        one, two = deed(30, [(11, 0)], 10), deed(31, [(11, 0)], 9)
        for first, second in ((one, two), (two, one)):
            self.pool = Pool(RULES)
            self.pool.put(FIRST)
            self.pool.put(block(2, 1, 1, maker(90, 1), first))
            self.pool.put(block(3, 1, 1, maker(91, 1), second))
            self.waits()
            self.pool.put(lone(4, 1, 9))
            self.waits(first[0])

    def test_the_order_is_that_in_which_they_were_first_known(self):
        one, two, three = deed(30, [(11, 0)], 10), deed(31, [(11, 1)], 10), deed(20, [(11, 2)], 10)
        self.takes(one, two)
        self.pool.put(block(2, 1, 5, maker(90, 1), three, two))
        self.waits(30)
        self.pool.put(lone(3, 1, 9))
        self.waits(30, 31, 20)

    def test_those_of_a_block_in_its_order(self):
        deeds = (deed(33, [(11, 0)], 10), deed(31, [(33, 0)], 10), deed(32, [(11, 1)], 10))
        self.pool.put(block(2, 1, 1, maker(90, 1), *deeds))
        self.waits()
        self.pool.put(lone(3, 1, 2))
        self.waits(33, 31, 32)

    def test_makers_never_wait(self):
        self.pool.put(block(2, 0, 1, maker(90, 1)))
        self.pool.put(block(3, 0, 9, maker(91, 1)))
        self.knows(11, 90, 91)
        self.waits()
        self.refuses(NoFit, deed(30, [(90, 0)], 1), deed(30, [(11, 0)], 1))

    def test_coins_of_makers_of_other_branches_are_gone(self):
        self.takes(deed(30, [(11, 0)], 10))
        self.pool.put(lone(2, 0, 9))
        self.waits()

    def test_in_a_block_and_out_of_it_again(self):
        one, two = deed(30, [(11, 0)], 10), deed(31, [(30, 0)], 10)
        self.takes(one, two)
        self.pool.put(block(2, 1, 1, maker(90, 1), one))
        self.waits(31)
        self.pool.put(lone(3, 1, 2))
        self.waits(30, 31)
        self.pool.put(block(4, 3, 1, maker(92, 1), one, two))
        self.waits()
        self.pool.put(lone(5, 2, 9))
        self.waits(31)
        self.pool.put(lone(6, 4, 20))
        self.waits()
        self.pool.put(lone(7, 3, 50))
        self.waits(30, 31)
        self.knows(11, 30, 31, 90, 1003, 92, 1005, 1006, 1007)

    def test_waits_no_more_and_again_later(self):
        self.takes(deed(30, [(11, 0)], 10), deed(31, [(11, 1)], 10), deed(32, [(30, 0), (31, 0)], 20))
        self.pool.put(block(2, 1, 2, maker(90, 1), deed(40, [(11, 0)], 10)))
        self.waits(31)
        self.pool.put(lone(3, 1, 3))
        self.waits(30, 31, 32)

    def test_another_one_takes_its_turn(self):
        """40 spends what 30 spends: it waits where 30 doesn't fit, and no more where it does."""
        high = (("height",), ("push", 2), ("same",))
        self.pool.put(block(2, 1, 1, maker(12, (10, high), 10)))
        self.pool.put(block(3, 0, 9, maker(12, (10, high), 10)))
        self.takes(deed(30, [(12, 0), (12, 1)], 20))
        self.pool.put(lone(4, 3))
        self.takes(deed(40, [(12, 1)], 10))
        self.pool.put(block(5, 0, 20, maker(12, (10, high), 10)))
        self.waits(30)
        self.pool.put(lone(6, 5))
        self.waits(40)

    def test_a_block_that_leaves_the_head(self):
        self.takes(deed(30, [(11, 0)], 10))
        self.pool.put(lone(2, 1, 5))
        self.pool.put(block(3, 1, 1, maker(90, 1), deed(40, [(11, 0)], 10), deed(41, [(11, 1)], 10)))
        self.waits(30, 41)

    def test_the_root_at_the_head(self):
        self.pool = Pool(RULES)
        self.waits()


class OfferTest(PoolCase):
    """Point 26: how a deed is offered, what it is refused with, and in which order."""

    ONE = deed(30, [(11, 0)], 10)
    # Known of a branch that doesn't count: 40 doesn't fit at the head, 41 waits there.
    SIDE = block(3, 1, 1, maker(91, 1), deed(40, [(11, 0)], 9), deed(41, [(11, 1)], 10))

    def fill(self):
        self.takes(self.ONE)
        self.pool.put(block(2, 1, 5, maker(90, 1)))
        self.pool.put(self.SIDE)
        self.waits(30, 41)

    def test_taken(self):
        self.takes(deed(30, [(11, 0)], 10), deed(BIG, [(11, 1), ((11, 4), (5,))], 1), deed(1, [(BIG, 0)], 1))

    def test_the_fee_may_be_all_but_nothing(self):
        self.takes(deed(30, [(11, 0)], 1), deed(31, [(30, 0)], 1))

    def test_no_deed(self):
        self.fill()
        for place, thing in enumerate(NO_TUPLES):
            with self.subTest(place=place):
                self.assertIs(outcome(self.pool.offer, thing), NoDeed)
        self.refuses(
            NoDeed, (), (31,), deed(0, [(11, 2)], 10), deed(BIG + 1, [(11, 2)], 10), deed(31, [(11, 2)]),
            deed(31, [(11, 2)], 0), deed(31, [(11, 2)], (10, (("if",),))), deed(31, [((11, 2), (10 ** 50,))], 10),
            [31, (((11, 2), ()),), ((10, OPEN),)], (True, (((11, 2), ()),), ((10, OPEN),)),
        )

    def test_no_deed_ahead_of_each(self):
        self.fill()
        self.refuses(
            NoDeed, deed(30, [(11, 0)], 0), deed(30, [(11, 1)]), maker(31), maker(11, 0), maker(30),
            deed(31, [(99, 0)], 0), deed(31, [(11, 0)]), deed(31, [(11, 2), (11, 2)], 0),
        )

    def test_other(self):
        self.fill()
        self.refuses(
            Other, deed(30, [(11, 0)], 9), deed(30, [(11, 2)], 10), deed(30, [((11, 0), (1,))], 10),
            deed(30, [(11, 0)], (10, ())), deed(30, [(11, 0)], 5, 5), deed(40, [(11, 2)], 9), deed(41, [(11, 1)], 9),
            deed(11, [(11, 2)], 10), deed(90, [(11, 2)], 10), deed(91, [(11, 2)], 10),
        )

    def test_other_ahead_of_each_that_does_not_fit(self):
        self.fill()
        self.refuses(
            Other, maker(11, 1), maker(30, 10), maker(40, 9), deed(30, [(99, 0)], 10), deed(30, [(11, 2)], 11),
            deed(30, [(11, 2), (11, 2)], 1), deed(30, [(11, 4)], 1), deed(40, [(11, 0)], 10),
        )

    def test_makers(self):
        self.fill()
        self.refuses(NoFit, maker(31, 1), maker(BIG, 10 ** 40), FIRST[3][0], maker(90, 1), maker(91, 1))

    def test_known_and_waiting(self):
        self.fill()
        self.refuses(NoFit, self.ONE, self.SIDE[3][2])

    def test_known_and_not_waiting(self):
        self.fill()
        self.refuses(NoFit, self.SIDE[3][1])
        self.pool.put(block(4, 2, 1, maker(92, 1), self.ONE))
        self.refuses(NoFit, self.ONE)
        self.pool.put(lone(5, 0, 50))
        self.waits()
        self.refuses(NoFit, self.ONE, self.SIDE[3][1], self.SIDE[3][2])

    def test_each_fault(self):
        self.fill()
        self.refuses(
            NoFit, deed(31, [(11, 2), (11, 2)], 10), deed(31, [(99, 0)], 10), deed(31, [(11, 5)], 10),
            deed(31, [(11, 0)], 1), deed(31, [(11, 1)], 1), deed(31, [(40, 0)], 1), deed(31, [(11, 4)], 5),
            deed(31, [((11, 4), (6,))], 5), deed(31, [(11, 2)], 11), deed(31, [(11, 2)], 10, 1),
        )
        self.takes(deed(31, [(11, 2)], 10))
        self.pool = Pool((50, 10, 2))
        self.pool.put(FIRST)
        self.refuses(NoFit, deed(31, [(11, 2)], 10))

    def test_behind_all_that_wait(self):
        self.fill()
        self.refuses(NoFit, deed(31, [(40, 0)], 1), deed(32, [(30, 1)], 1))
        self.takes(deed(31, [(30, 0), (41, 0)], 20))
        self.refuses(NoFit, deed(32, [(30, 0)], 1))

    def test_refused_once_and_taken_later(self):
        thing = deed(31, [(90, 0)], 1)
        self.refuses(NoFit, thing)
        self.fill()
        self.takes(thing)

    def test_a_block_is_refused_for_a_deed_that_was_offered(self):
        self.takes(self.ONE)
        for thing in (
            block(2, 1, 1, maker(30, 1)), block(2, 1, 1, maker(90, 1), deed(30, [(11, 0)], 9)),
            block(2, 1, 1, maker(90, 1), deed(31, [(11, 1)], 10), deed(30, [(31, 0)], 10)),
            block(2, 0, 1, maker(90, 51), deed(30, [(90, 0)], 10)),
        ):
            ahead = all_of(self.pool)
            self.assertIs(outcome(self.pool.judge, thing), Other)
            self.assertIs(outcome(self.pool.put, thing), Other)
            self.assertEqual(all_of(self.pool), ahead)
        self.assertEqual(self.pool.put(block(2, 1, 1, maker(90, 1), self.ONE)), ([], [2]))

    def test_known_and_no_ahead_go_ahead_of_that_other(self):
        self.takes(self.ONE)
        self.assertIs(outcome(self.pool.put, block(1, 0, 1, maker(30, 1))), Known)
        self.assertIs(outcome(self.pool.put, block(2, 9, 1, maker(30, 1))), NoAhead)
        self.assertIs(outcome(self.pool.put, block(2, 1, 0, maker(30, 1))), NoBlock)

    def test_deeds_that_wait_are_in_no_hoard(self):
        """A block may spend what one that waits spends, and not what it makes."""
        self.takes(self.ONE)
        self.assertEqual(self.pool.judge(block(2, 1, 1, maker(90, 1), deed(31, [(30, 0)], 1))), (1, "gone"))
        self.assertIsNone(self.pool.judge(block(2, 1, 1, maker(90, 1), deed(31, [(11, 0)], 1))))
        self.assertEqual((self.pool.total(1), self.pool.spender((11, 0), 1)), (45, None))
        self.assertEqual(self.pool.coins(1), {
            (11, 0): (10, OPEN, 1, 1), (11, 1): (10, OPEN, 1, 1), (11, 2): (10, OPEN, 1, 1),
            (11, 3): (10, OPEN, 1, 1), (11, 4): (5, FIVE, 1, 1),
        })

    def test_a_block_of_what_waits(self):
        self.takes(self.ONE, deed(31, [(30, 0)], 10))
        self.assertEqual(
            self.pool.judge(block(2, 1, 1, maker(90, 1), self.pool.deed(31), self.pool.deed(30))), (1, "gone"))
        things = [self.pool.deed(number) for number in self.pool.waiting()]
        self.assertEqual(self.pool.put(block(2, 1, 1, maker(90, 1), *things)), ([], [2]))
        self.waits()


class OwnTest(PoolCase):
    """Point 2: lists are the asker's own, and nothing that is asked or refused changes anything."""

    def setUp(self):
        PoolCase.setUp(self)
        self.pool.offer(deed(30, [(11, 0)], 10))
        self.pool.put(block(2, 1, 1, maker(90, 1), deed(31, [(11, 1)], 10)))
        self.pool.put(block(3, 1, 1, maker(91, 1), deed(31, [(11, 1)], 10)))

    def test_lists_that_the_asker_changes(self):
        ahead = all_of(self.pool)
        for told in (self.pool.waiting(), self.pool.known(), self.pool.where(31), self.pool.where(30)):
            told.append(99)
            told.reverse()
        self.assertEqual(all_of(self.pool), ahead)
        for told in (self.pool.waiting(), self.pool.known(), self.pool.where(31)):
            told.clear()
        self.assertEqual(all_of(self.pool), ahead)
        self.takes(deed(99, [(11, 2)], 10))

    def test_what_was_told_stays(self):
        told = [self.pool.waiting(), self.pool.known(), self.pool.where(31), self.pool.where(30)]
        self.takes(deed(32, [(11, 2)], 10))
        self.pool.put(block(4, 1, 9, maker(92, 1), deed(31, [(11, 1)], 10), deed(30, [(11, 0)], 10)))
        self.assertEqual(told, [[30], [11, 30, 90, 31, 91], [2, 3], []])
        self.assertEqual((self.pool.waiting(), self.pool.where(31), self.pool.where(30)), ([32], [2, 3, 4], [4]))

    def test_lists_are_told(self):
        for told in (self.pool.waiting(), self.pool.known(), self.pool.where(31)):
            self.assertIsInstance(told, list)

    def test_asked_it_changes_nothing(self):
        ahead = all_of(self.pool)
        for turn in range(3):
            self.assertEqual(all_of(self.pool), ahead)


class ManyTest(unittest.TestCase):
    def test_200_deeds_that_wait_one_on_the_other(self):
        pool = Pool((10 ** 40, 1, 0))
        pool.put(block(1, 0, 1, maker(1, 10 ** 40)))
        for number in range(2, 201):
            pool.offer(deed(number, [(number - 1, 0)], 10 ** 40 - number))
        self.assertEqual(pool.waiting(), list(range(2, 201)))
        pool.put(lone(2, 0, 5))
        self.assertEqual(pool.waiting(), [])
        self.assertEqual(pool.known(), list(range(1, 201)) + [1002])


def changed(ahead, behind):
    """How a list of those that wait differs from the one ahead of it."""
    if ahead == behind:
        return "same"
    if set(ahead) < set(behind):
        return "more"
    return "fewer" if set(behind) < set(ahead) else "others"


class ChanceTest(unittest.TestCase):
    """Blocks and offers by chance beside a telling that keeps only which blocks there are and which deeds are known."""

    def step(self, pool, told, word, thing):
        """Puts in or offers the thing in both, and tells what came of it."""
        if word == "judge":
            answer = told.judged(thing)
            self.assertEqual(outcome(pool.judge, thing), answer)
        elif word == "put":
            answer = told.put(thing)
            self.assertEqual(outcome(pool.put, thing), answer)
        else:
            answer = told.offer(thing)
            self.assertEqual(outcome(pool.offer, thing), answer)
        self.assertEqual((pool.head(), pool.waiting()), (told.head(), told.waited()[0]))
        self.assertEqual(pool.known(), [each[0] for each in told.deeds])
        return answer

    def compare(self, pool, told):
        for number in told.nodes():
            self.assertEqual(node_of(pool, number, told.coins()), told.node(number))
            self.assertLessEqual(pool.total(number), told.at(number).gifts)
        for each in told.deeds:
            self.assertEqual((pool.deed(each[0]), pool.where(each[0])), (each, told.where(each[0])))

    def test_books_by_chance(self):
        chance, outcomes = BookChance(7), {}
        for turn in range(60):
            rules = CHANCE_RULES[turn % 3]
            pool, told, steps = Pool(rules), ToldBook(rules), []
            for count in range(60):
                word = chance.random.choice(("put", "put", "offer", "offer", "judge"))
                thing = chance.offer(told) if word == "offer" else chance.block(told)
                steps.append((word, thing))
                waited = told.waited()[0]
                answer = self.step(pool, told, word, thing)
                for name in ((word, answer if isinstance(answer, type) else None), changed(waited, told.waited()[0])):
                    outcomes[name] = outcomes.get(name, 0) + 1
            self.compare(pool, told)
            for again in range(2):
                chance.random.shuffle(steps)
                pool, told = Pool(rules), ToldBook(rules)
                # Twice over: what came ahead of its time is put in or offered once more.
                for word, thing in steps + steps:
                    self.step(pool, told, word, thing)
                self.compare(pool, told)
        for name in (("put", BadBlock), ("put", Known), ("put", NoAhead), ("put", Other), ("put", None),
                     ("offer", NoFit), ("offer", Other), ("offer", None), ("judge", Other), "more", "fewer", "others"):
            self.assertGreater(outcomes.get(name, 0), 10, name)


if __name__ == "__main__":
    unittest.main()
