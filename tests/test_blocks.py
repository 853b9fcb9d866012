import unittest

from making import FIVE, OPEN, block, deed, maker
from spentonce.blocks import block_fault, checked_block, checked_rules, do_block, gift
from spentonce.errors import BadBlock, CoinError, NoBlock, NoRules
from spentonce.hoards import Hoard
from strange import NO_TUPLES, NO_WHOLE_NUMBERS

BIG = 10 ** 30
RICH = 10 ** 40
HUGE = 10 ** 5000

MAKER = maker(1, 50)
DEED = deed(2, [(1, 0)], 50)
RULES = (50, 10, 0)


def others(count):
    return tuple([deed(number + 2, [(number + 1, 0)], 50) for number in range(count)])


class CheckedCase(unittest.TestCase):
    check, refusal = None, None

    def is_one(self, thing):
        self.assertEqual(type(self).check(thing), thing)

    def is_none(self, thing):
        with self.assertRaises(self.refusal) as taken:
            type(self).check(thing)
        self.assertIsInstance(taken.exception, CoinError)


class CheckedBlockTest(CheckedCase):
    check, refusal = checked_block, NoBlock

    def test_blocks(self):
        self.is_one((9, 4, 3, (MAKER,)))
        self.is_one((9, 4, 3, (MAKER, DEED)))
        self.is_one((9, 9, 3, (MAKER, DEED, DEED)))

    def test_bounds(self):
        for number in (1, 2, BIG - 1, BIG):
            self.is_one((number, 4, 3, (MAKER,)))
            self.is_one((9, number, 3, (MAKER,)))
            self.is_one((9, 4, number, (MAKER,)))
        self.is_one((9, 0, 3, (MAKER,)))
        for number in (0, -1, BIG + 1, -BIG, HUGE, -HUGE):
            self.is_none((number, 4, 3, (MAKER,)))
            self.is_none((9, 4, number, (MAKER,)))
        for number in (-1, BIG + 1, -BIG, HUGE, -HUGE):
            self.is_none((9, number, 3, (MAKER,)))

    def test_things_that_are_no_block(self):
        for place, thing in enumerate(NO_TUPLES):
            with self.subTest(place=place):
                self.is_none(thing)
                self.is_none((9, 4, 3, thing))
                self.is_none((9, 4, 3, (thing,)))
                self.is_none((9, 4, 3, (MAKER, thing)))
                self.is_none((9, 4, 3, (MAKER, DEED, thing)))
                self.is_none((9, 4, 3, (maker(1, (50, thing)),)))

    def test_no_whole_numbers(self):
        for place, thing in enumerate(NO_WHOLE_NUMBERS):
            with self.subTest(place=place):
                self.is_none((thing, 4, 3, (MAKER,)))
                self.is_none((9, thing, 3, (MAKER,)))
                self.is_none((9, 4, thing, (MAKER,)))
                self.is_none((9, 4, 3, ((thing, (), ((50, OPEN),)),)))

    def test_another_count_of_parts(self):
        for thing in ((), (9,), (9, 4, 3), (9, 4, (MAKER,)), (9, 4, 3, (MAKER,), ()), (9, 4, 3, MAKER, DEED), MAKER):
            self.is_none(thing)

    def test_lists_in_the_place_of_tuples(self):
        self.is_none([9, 4, 3, (MAKER,)])
        self.is_none((9, 4, 3, [MAKER]))
        self.is_none((9, 4, 3, [MAKER, DEED]))
        self.is_none((9, 4, 3, (list(MAKER),)))
        self.is_none((9, 4, 3, (MAKER, list(DEED))))
        self.is_none((9, 4, 3, (MAKER, (2, [((1, 0), ())], ((50, OPEN),)))))
        self.is_none((9, 4, 3, ((1, (), [(50, OPEN)]),)))
        self.is_none((9, 4, 3, ((1, (), ((50, [("push", 1)]),)),)))

    def test_how_many_deeds(self):
        self.is_none((9, 4, 3, ()))
        for count in range(12):
            self.is_one((9, 4, 3, (MAKER,) + others(count)))
        for count in (12, 13, 100):
            self.is_none((9, 4, 3, (MAKER,) + others(count)))

    def test_the_first_is_a_maker(self):
        self.is_none((9, 4, 3, (DEED,)))
        self.is_none((9, 4, 3, (DEED, MAKER)))
        self.is_none((9, 4, 3, (DEED, DEED)))

    def test_the_others_are_none(self):
        self.is_none((9, 4, 3, (MAKER, MAKER)))
        for place in range(1, 12):
            deeds = [MAKER] + list(others(10))
            deeds.insert(place, maker(40, 1))
            self.is_none((9, 4, 3, tuple(deeds)))

    def test_deeds_that_are_none(self):
        for wrong in (
            maker(0, 50), maker(BIG + 1, 50), maker(1), maker(1, 0), maker(1, RICH + 1), maker(1, *[1] * 9),
            maker(1, (50, (("if",),))), maker(True, 50), (1, ()), (),
        ):
            self.is_none((9, 4, 3, (wrong,)))
        for wrong in (
            deed(0, [(1, 0)], 50), deed(2, [(1, -1)], 50), deed(2, [(1, 0)]), deed(2, [((1, 0), (True,))], 50),
            deed(2, [((1, 0), (10 ** 50,))], 50), deed(2, [(1, 0)] * 9, 50), deed(2, [(1, 0)], (50, (("push",),))),
        ):
            self.is_none((9, 4, 3, (MAKER, wrong)))
            self.is_none((9, 4, 3, (MAKER, DEED, wrong)))

    def test_a_list_that_is_refused_stays(self):
        thing = [9, 4, 3, [[1, [], [[50, []]]]]]
        self.is_none(thing)
        self.assertEqual(thing, [9, 4, 3, [[1, [], [[50, []]]]]])


class CheckedRulesTest(CheckedCase):
    check, refusal = checked_rules, NoRules

    def test_bounds(self):
        for thing in ((50, 10, 3), (0, 1, 0), (RICH, 1000, 1000), (1, 2, 1), (RICH - 1, 999, 999)):
            self.is_one(thing)
        for thing in (
            (-1, 10, 3), (RICH + 1, 10, 3), (HUGE, 10, 3), (50, 0, 3), (50, -1, 3), (50, 1001, 3), (50, HUGE, 3),
            (50, 10, -1), (50, 10, 1001), (50, 10, HUGE), (-HUGE, -HUGE, -HUGE),
        ):
            self.is_none(thing)

    def test_things_that_are_no_rules(self):
        for place, thing in enumerate(NO_TUPLES):
            with self.subTest(place=place):
                self.is_none(thing)

    def test_no_whole_numbers(self):
        for place, thing in enumerate(NO_WHOLE_NUMBERS):
            with self.subTest(place=place):
                self.is_none((thing, 10, 3))
                self.is_none((50, thing, 3))
                self.is_none((50, 10, thing))

    def test_another_count_of_parts(self):
        for thing in ((), (50,), (50, 10), (50, 10, 3, 0), ((50, 10, 3),), [50, 10, 3]):
            self.is_none(thing)


class GiftTest(unittest.TestCase):
    def test_halved_behind_each_step(self):
        for height, outcome in (
            (1, 50), (2, 50), (10, 50), (11, 25), (20, 25), (21, 12), (30, 12), (31, 6), (41, 3), (51, 1), (60, 1),
            (61, 0), (70, 0), (71, 0), (1000, 0),
        ):
            with self.subTest(height):
                self.assertEqual(gift((50, 10, 3), height), outcome)

    def test_step_1(self):
        self.assertEqual([gift((100, 1, 0), height) for height in range(1, 10)], [100, 50, 25, 12, 6, 3, 1, 0, 0])

    def test_step_1000(self):
        outcomes = [gift((7, 1000, 0), height) for height in (1, 1000, 1001, 2000, 2001, 3000, 3001)]
        self.assertEqual(outcomes, [7, 7, 3, 3, 1, 1, 0])

    def test_the_greatest_gift(self):
        told = RICH
        for height in range(1, 140):
            self.assertEqual(gift((RICH, 1, 0), height), told)
            told //= 2
        self.assertEqual(told, 0)
        self.assertEqual(gift((RICH, 1, 0), 133), 1)
        self.assertEqual(gift((RICH, 1, 0), 134), 0)

    def test_far_on(self):
        for height in (10 ** 6, BIG, 10 ** 100, HUGE, HUGE + 1):
            for first in (0, 1, 50, RICH):
                for step in (1, 7, 1000):
                    self.assertEqual(gift((first, step, 0), height), 0)

    def test_below_the_first_height_nothing_is_halved(self):
        self.assertEqual([gift((50, step, 0), 0) for step in (1, 2, 1000)], [50, 50, 50])

    def test_no_gift(self):
        for height in (1, 2, 100, HUGE):
            self.assertEqual(gift((0, 1, 0), height), 0)


def all_of(hoard):
    return (list(hoard.held().items()), hoard.total(), [number for number in range(99) if hoard.did(number)])


class DoneCase(unittest.TestCase):
    def setUp(self):
        self.hoard = Hoard()
        self.hoard.do(maker(1, (50, FIVE), 20, 7), 1, 1)
        self.hoard.do(maker(2, 30), 1, 12)

    def fits(self, height, *deeds, rules=RULES):
        """The block has no fault, and its notes undo it."""
        thing = block(9, 4, 1, *deeds)
        ahead = all_of(self.hoard)
        self.assertIsNone(block_fault(self.hoard, thing, height, rules))
        self.assertEqual(all_of(self.hoard), ahead)
        notes = do_block(self.hoard, thing, height, rules)
        self.assertIsInstance(notes, list)
        self.assertEqual(len(notes), len(deeds))
        held = self.hoard.held()
        for note in reversed(notes):
            self.hoard.undo(note)
        self.assertEqual(all_of(self.hoard), ahead)
        return held

    def has_fault(self, fault, height, *deeds, rules=RULES):
        thing = block(9, 4, 1, *deeds)
        ahead = all_of(self.hoard)
        for turn in range(2):
            found = block_fault(self.hoard, thing, height, rules)
            self.assertEqual(found, fault)
            self.assertIsInstance(found, tuple)
            self.assertEqual(all_of(self.hoard), ahead)
        with self.assertRaises(BadBlock) as taken:
            do_block(self.hoard, thing, height, rules)
        self.assertIsInstance(taken.exception, CoinError)
        self.assertEqual(all_of(self.hoard), ahead)


class DoneTest(DoneCase):
    def test_a_maker_alone(self):
        held = self.fits(5, maker(3, 50))
        self.assertEqual(held[(3, 0)], (50, OPEN, 5, 5))

    def test_deed_by_deed(self):
        held = self.fits(5, maker(3, 50), deed(4, [(1, 1)], 20), deed(5, [(4, 0), (1, 2)], 10, (17, FIVE)))
        self.assertEqual(held, {
            (1, 0): (50, FIVE, 1, 1), (2, 0): (30, OPEN, 1, 12), (3, 0): (50, OPEN, 5, 5),
            (5, 0): (10, OPEN, 5, 5), (5, 1): (17, FIVE, 5, 5)})

    def test_coins_of_deeds_ahead_in_it(self):
        deeds = [maker(3, 50)] + [deed(number + 1, [(number, 0)], 50) for number in range(3, 14)]
        held = self.fits(5, *deeds)
        self.assertEqual(held[(14, 0)], (50, OPEN, 5, 5))
        self.assertEqual([number for number in range(3, 15) if (number, 0) in held], [14])

    def test_coins_of_deeds_behind_in_it(self):
        self.has_fault((1, "gone"), 5, maker(3, 50), deed(5, [(4, 0)], 20), deed(4, [(1, 1)], 20))

    def test_coins_of_the_maker_by_ripe(self):
        for ripe in (1, 2, 1000):
            rules = (50, 10, ripe)
            self.has_fault((1, "green"), 5, maker(3, 50), deed(4, [(3, 0)], 50), rules=rules)
            self.assertEqual(self.fits(5, maker(3, 50), rules=rules)[(3, 0)], (50, OPEN, 5, 5 + ripe))
        self.fits(5, maker(3, 50), deed(4, [(3, 0)], 50), rules=(50, 10, 0))

    def test_coins_of_the_others_hang_on_no_ripe(self):
        held = self.fits(5, maker(3, 50), deed(4, [(1, 1)], 20), deed(5, [(4, 0)], 20), rules=(50, 10, 1000))
        self.assertEqual(held[(5, 0)], (20, OPEN, 5, 5))

    def test_ripe_at_a_later_block(self):
        rules = (50, 10, 3)
        do_block(self.hoard, block(9, 4, 1, maker(3, 50)), 5, rules)
        self.has_fault((1, "green"), 7, maker(4, 50), deed(5, [(3, 0)], 50), rules=rules)
        self.fits(8, maker(4, 50), deed(5, [(3, 0)], 50), rules=rules)

    def test_age_and_height_are_those_of_the_block(self):
        lock = (("age",), ("not",), ("height",), ("push", 5), ("same",), ("mul",))
        self.fits(5, maker(3, (50, lock)), deed(4, [(3, 0)], 50))
        self.has_fault((1, "shut"), 6, maker(3, (50, lock)), deed(4, [(3, 0)], 50))

    def test_the_number_and_the_ahead_are_not_looked_at(self):
        for number, ahead in ((1, 0), (9, 9), (BIG, BIG), (0, 0)):
            hoard = Hoard()
            self.assertIsNone(block_fault(hoard, block(number, ahead, 1, maker(3, 50)), 1, RULES))
            self.assertEqual(len(do_block(hoard, block(number, ahead, 1, maker(3, 50)), 1, RULES)), 1)

    def test_notes_undo_deed_by_deed(self):
        deeds = [maker(3, 50), deed(4, [(1, 1)], 20), deed(5, [(4, 0), (3, 0)], 70)]
        states = [all_of(self.hoard)]
        trial = self.hoard.copied()
        for thing in deeds:
            trial.do(thing, 5, 5)
            states.append(all_of(trial))
        notes = do_block(self.hoard, block(9, 4, 1, *deeds), 5, RULES)
        while notes:
            self.assertEqual(all_of(self.hoard), states[len(notes)])
            self.hoard.undo(notes.pop())
        self.assertEqual(all_of(self.hoard), states[0])

    def test_the_asker_changes_the_notes(self):
        notes = do_block(self.hoard, block(9, 4, 1, maker(3, 50), deed(4, [(1, 1)], 20)), 5, RULES)
        ahead = all_of(self.hoard)
        notes.clear()
        self.assertEqual(all_of(self.hoard), ahead)


class FaultTest(DoneCase):
    def test_each_fault_with_its_place(self):
        good = deed(4, [(1, 1)], 20)
        for word, wrong in (
            ("known", deed(1, [(1, 2)], 7)), ("twice", deed(5, [(1, 2), (1, 2)], 7)), ("gone", deed(5, [(1, 3)], 7)),
            ("green", deed(5, [(2, 0)], 7)), ("shut", deed(5, [(1, 0)], 7)), ("less", deed(5, [(1, 2)], 8)),
        ):
            with self.subTest(word):
                self.has_fault((1, word), 5, maker(3, 50), wrong)
                self.has_fault((1, word), 5, maker(3, 50), wrong, good)
                self.has_fault((2, word), 5, maker(3, 50), good, wrong)

    def test_a_maker_that_is_known(self):
        self.has_fault((0, "known"), 5, maker(1, 50))
        self.has_fault((0, "known"), 5, maker(2, 1), deed(5, [(1, 3)], 7))

    def test_a_deed_that_stands_twice(self):
        good = deed(4, [(1, 1)], 20)
        self.has_fault((2, "known"), 5, maker(3, 50), good, good)
        self.has_fault((3, "known"), 5, maker(3, 50), good, deed(5, [(4, 0)], 20), good)
        self.has_fault((1, "known"), 5, maker(3, 50), deed(3, [(1, 1)], 20))

    def test_a_coin_that_two_deeds_spend(self):
        self.has_fault((2, "gone"), 5, maker(3, 50), deed(4, [(1, 1)], 20), deed(5, [(1, 1)], 20))

    def test_the_first_of_several(self):
        self.has_fault((1, "less"), 5, maker(3, 50), deed(4, [(1, 1)], 21), deed(5, [(1, 3)], 1), deed(1, [(1, 2)], 1))
        self.has_fault((2, "gone"), 5, maker(3, 50), deed(4, [(1, 1)], 20), deed(5, [(4, 1)], 1), deed(1, [(1, 2)], 1))

    def test_a_fault_at_the_last_place(self):
        deeds = [maker(3, 50)] + [deed(number + 1, [(number, 0)], 50) for number in range(3, 13)]
        self.fits(5, *deeds)
        self.has_fault((11, "less"), 5, *deeds, deed(14, [(13, 0)], 51))
        self.has_fault((11, "gone"), 5, *deeds, deed(14, [(12, 0)], 50))


class MuchTest(DoneCase):
    def test_just_as_much_and_one_more(self):
        self.fits(5, maker(3, 50))
        self.fits(5, maker(3, 1))
        self.has_fault((0, "much"), 5, maker(3, 51))
        self.fits(5, maker(3, 20, 20, 10))
        self.has_fault((0, "much"), 5, maker(3, 20, 20, 11))

    def test_with_fees(self):
        self.fits(5, maker(3, 54), deed(4, [(1, 1)], 16))
        self.has_fault((0, "much"), 5, maker(3, 55), deed(4, [(1, 1)], 16))
        deeds = [deed(4, [(1, 1)], 16), deed(5, [(4, 0), (1, 2)], 20), deed(6, [(5, 0)], 20)]
        self.fits(5, maker(3, 57), *deeds)
        self.has_fault((0, "much"), 5, maker(3, 58), *deeds)

    def test_fees_of_the_makers_own_coins(self):
        self.fits(5, maker(3, 99), deed(4, [(3, 0)], 50))
        self.has_fault((0, "much"), 5, maker(3, 100), deed(4, [(3, 0)], 51))

    def test_at_the_height(self):
        for height, most in ((1, 50), (10, 50), (11, 25), (21, 12), (51, 1)):
            self.fits(height, maker(3, most))
            self.has_fault((0, "much"), height, maker(3, most + 1))
        self.has_fault((0, "much"), 61, maker(3, 1))
        self.has_fault((0, "much"), BIG, maker(3, 1))
        self.fits(BIG, maker(3, 4), deed(4, [(1, 1)], 16))

    def test_without_a_gift(self):
        rules = (0, 1, 0)
        self.has_fault((0, "much"), 1, maker(3, 1), rules=rules)
        self.fits(5, maker(3, 20), deed(4, [(1, 1), (1, 2)], 7), rules=rules)
        self.has_fault((0, "much"), 5, maker(3, 21), deed(4, [(1, 1), (1, 2)], 7), rules=rules)

    def test_only_where_no_deed_has_a_fault(self):
        self.has_fault((0, "known"), 5, maker(1, 51))
        self.has_fault((1, "gone"), 5, maker(3, 51), deed(4, [(9, 9)], 1))
        self.has_fault((2, "less"), 5, maker(3, 500), deed(4, [(1, 1)], 20), deed(5, [(4, 0)], 21))
        self.has_fault((0, "much"), 5, maker(3, 500), deed(4, [(1, 1)], 20), deed(5, [(4, 0)], 20))


if __name__ == "__main__":
    unittest.main()
