import itertools
import random
import unittest

from making import FIVE, OPEN, deed, maker, outcome
from spentonce.deeds import worth_of
from spentonce.errors import CoinError, NoFit
from spentonce.hoards import Hoard
from spentonce.trying import opens

BIG = 10 ** 30
RICH = 10 ** 40


def all_of(hoard):
    """All that a hoard tells, the order of its coins too."""
    return (list(hoard.held().items()), hoard.total(), [number for number in range(60) if hoard.did(number)])


class HoardCase(unittest.TestCase):
    def setUp(self):
        self.hoard = Hoard()

    def is_fault(self, word, thing, height=10):
        """The fault is told, and what is done is refused for it alone."""
        ahead = all_of(self.hoard)
        for turn in range(2):
            self.assertEqual(self.hoard.fault(thing, height), word)
        self.assertEqual(all_of(self.hoard), ahead)
        if word is None:
            self.hoard.undo(self.hoard.do(thing, height, height))
        else:
            with self.assertRaises(NoFit) as taken:
                self.hoard.do(thing, height, height)
            self.assertIsInstance(taken.exception, CoinError)
        self.assertEqual(all_of(self.hoard), ahead)


class EmptyTest(HoardCase):
    def test_nothing_is_held(self):
        self.assertEqual(self.hoard.held(), {})
        self.assertEqual(self.hoard.total(), 0)
        self.assertIs(self.hoard.did(1), False)

    def test_makers_alone_have_no_fault(self):
        self.is_fault(None, maker(1, 50), 0)
        self.is_fault(None, maker(BIG, *[RICH] * 8), BIG)
        self.is_fault("gone", deed(1, [(2, 0)], 1), 0)

    def test_hoards_are_apart(self):
        other = Hoard()
        other.do(maker(1, 50), 3, 4)
        self.assertEqual(all_of(self.hoard), ([], 0, []))


class HeldTest(HoardCase):
    def test_what_is_held_of_a_coin(self):
        self.hoard.do(maker(1, (50, FIVE), 20), 3, 9)
        self.assertEqual(self.hoard.held(), {(1, 0): (50, FIVE, 3, 9), (1, 1): (20, OPEN, 3, 9)})
        self.assertEqual(self.hoard.total(), 70)
        self.assertIs(self.hoard.did(1), True)
        self.assertIs(self.hoard.did(2), False)
        for kept in self.hoard.held().values():
            self.assertIsInstance(kept, tuple)

    def test_coins_go_and_come(self):
        self.hoard.do(maker(1, (50, FIVE), 20), 3, 3)
        self.hoard.do(deed(2, [((1, 0), (5,))], 30, (15, FIVE)), 7, 6)
        self.assertEqual(
            self.hoard.held(), {(1, 1): (20, OPEN, 3, 3), (2, 0): (30, OPEN, 7, 6), (2, 1): (15, FIVE, 7, 6)})
        self.assertEqual(self.hoard.total(), 65)
        self.assertTrue(self.hoard.did(1) and self.hoard.did(2))

    def test_several_coins_go_at_once(self):
        self.hoard.do(maker(1, 1, 2, 4, 8), 0, 0)
        self.hoard.do(maker(2, 16), 0, 0)
        self.hoard.do(deed(3, [(2, 0), (1, 3), (1, 1)], 26), 1, 1)
        self.assertEqual(
            self.hoard.held(), {(1, 0): (1, OPEN, 0, 0), (1, 2): (4, OPEN, 0, 0), (3, 0): (26, OPEN, 1, 1)})

    def test_great_heights_and_worths(self):
        self.hoard.do(maker(BIG, *[RICH] * 8), BIG, BIG + 1000)
        self.assertEqual(self.hoard.held()[(BIG, 7)], (RICH, OPEN, BIG, BIG + 1000))
        self.assertEqual(self.hoard.total(), 8 * RICH)

    def test_the_asker_changes_what_is_held(self):
        self.hoard.do(maker(1, 50, 20), 3, 3)
        told = self.hoard.held()
        ahead = dict(told)
        told.clear()
        self.assertEqual(self.hoard.held(), ahead)
        self.hoard.held()[(9, 9)] = (1000, OPEN, 0, 0)
        self.hoard.held().pop((1, 0))
        self.assertEqual(self.hoard.held(), ahead)
        self.assertEqual(self.hoard.total(), 70)
        self.is_fault("gone", deed(2, [(9, 9)], 1))
        self.is_fault(None, deed(2, [(1, 0)], 1))

    def test_what_was_told_stays(self):
        note = self.hoard.do(maker(1, 50), 3, 3)
        told = self.hoard.held()
        self.hoard.do(deed(2, [(1, 0)], 40), 4, 4)
        self.assertEqual(told, {(1, 0): (50, OPEN, 3, 3)})
        self.assertIsNotNone(note)

    def test_a_copy_is_apart(self):
        note = self.hoard.do(maker(1, 50), 3, 3)
        other = self.hoard.copied()
        ahead = all_of(self.hoard)
        self.assertEqual(all_of(other), ahead)
        other.do(deed(2, [(1, 0)], 40), 4, 4)
        self.assertEqual(all_of(self.hoard), ahead)
        self.hoard.undo(note)
        self.assertEqual(other.held(), {(2, 0): (40, OPEN, 4, 4)})


class EachFaultTest(HoardCase):
    """Made: coin (1, 0) opens with 5; (1, 1) opens; (2, 0), (2, 1) are green below 20, (2, 1) opens with 5."""

    KEPT, OPENED = (1, 0), (1, 1)
    GREEN, GREEN_KEPT = (2, 0), (2, 1)
    GONE, NEVER = (3, 0), (99, 0)

    def setUp(self):
        super().setUp()
        self.hoard.do(maker(1, (50, FIVE), 20, 7), 3, 3)
        self.hoard.do(maker(2, 60, (70, FIVE)), 5, 20)
        self.hoard.do(maker(3, 10), 5, 5)
        self.hoard.do(deed(4, [(3, 0)], 10), 6, 6)

    def test_none(self):
        self.is_fault(None, deed(9, [(self.KEPT, (5,)), self.OPENED], 70))

    def test_known(self):
        for number in (1, 2, 3, 4):
            self.is_fault("known", maker(number, 1))
            self.is_fault("known", deed(number, [self.OPENED], 1))
        self.is_fault("known", deed(4, [(3, 0)], 10))
        self.is_fault(None, maker(5, 1))

    def test_twice(self):
        self.is_fault("twice", deed(9, [self.OPENED, self.OPENED], 1))
        self.is_fault("twice", deed(9, [(self.KEPT, (5,)), self.OPENED, (self.KEPT, (5,))], 1))
        self.is_fault("twice", deed(9, [(self.KEPT, (5,)), (self.KEPT, (5, 5))], 1))
        self.is_fault("twice", deed(9, [(self.OPENED, ()), (self.OPENED, (1,))], 1))
        self.is_fault(None, deed(9, [self.OPENED, (1, 2)], 1))

    def test_gone(self):
        for coin in (self.GONE, self.NEVER, (1, 3), (0, 0), (9, 0), (0, 1), (BIG, BIG)):
            with self.subTest(coin):
                self.is_fault("gone", deed(9, [coin], 1))
        self.is_fault("gone", deed(9, [self.OPENED, self.GONE], 1))

    def test_green(self):
        for height, word in ((0, "green"), (5, "green"), (19, "green"), (20, None), (21, None), (BIG, None)):
            with self.subTest(height):
                self.is_fault(word, deed(9, [self.GREEN], 1), height)
                self.is_fault(word, deed(9, [self.OPENED, (self.GREEN_KEPT, (5,))], 1), max(height, 3))

    def test_free_from_nought_on(self):
        self.hoard.do(maker(5, 50), 30, 0)
        self.is_fault(None, deed(9, [(5, 0)], 1), 0)

    def test_free_far_on(self):
        self.hoard.do(maker(5, 50), 30, BIG + 5)
        self.is_fault("green", deed(9, [(5, 0)], 1), BIG)
        self.is_fault("green", deed(9, [(5, 0)], 1), BIG + 4)
        self.is_fault(None, deed(9, [(5, 0)], 1), BIG + 5)

    def test_shut(self):
        self.is_fault("shut", deed(9, [self.KEPT], 1))
        self.is_fault("shut", deed(9, [(self.KEPT, (6,))], 1))
        self.is_fault("shut", deed(9, [self.OPENED, (self.KEPT, (5, 4))], 1))
        self.is_fault(None, deed(9, [(self.KEPT, (5,))], 1))

    def test_less(self):
        self.is_fault(None, deed(9, [self.OPENED], 20))
        self.is_fault("less", deed(9, [self.OPENED], 21))
        self.is_fault(None, deed(9, [self.OPENED, (1, 2)], 20, 7))
        self.is_fault("less", deed(9, [self.OPENED, (1, 2)], 20, 8))
        self.is_fault("less", deed(9, [self.OPENED], *[RICH] * 8))
        self.is_fault(None, deed(9, [self.OPENED], 1))

    def test_less_is_never_of_a_maker(self):
        self.is_fault(None, maker(9, *[RICH] * 8))

    def test_known_ahead_of_each(self):
        for ins, outs in (
            ([self.OPENED, self.OPENED], [1]), ([self.GONE], [1]), ([self.GREEN], [1]), ([self.KEPT], [1]),
            ([self.OPENED], [21]),
        ):
            for number in (1, 4):
                self.is_fault("known", deed(number, ins, *outs))

    def test_twice_ahead_of_each(self):
        self.is_fault("twice", deed(9, [self.GONE, self.GONE], 1))
        self.is_fault("twice", deed(9, [self.GONE, self.OPENED, self.OPENED], 1))
        self.is_fault("twice", deed(9, [self.GREEN, self.GREEN], 1))
        self.is_fault("twice", deed(9, [self.GREEN, self.OPENED, self.OPENED], 1))
        self.is_fault("twice", deed(9, [self.KEPT, self.KEPT], 1))
        self.is_fault("twice", deed(9, [self.KEPT, (1, 2), self.OPENED, (1, 2)], 1))
        self.is_fault("twice", deed(9, [self.OPENED, self.OPENED], 41))

    def test_green_ahead_of_shut_in_one_in(self):
        self.is_fault("green", deed(9, [self.GREEN_KEPT], 1), 19)
        self.is_fault("shut", deed(9, [self.GREEN_KEPT], 1), 20)
        self.is_fault("green", deed(9, [(self.GREEN_KEPT, (6,))], 1), 19)

    def test_each_of_an_in_ahead_of_less(self):
        self.is_fault("gone", deed(9, [self.GONE], 1000))
        self.is_fault("green", deed(9, [self.GREEN], 1000))
        self.is_fault("shut", deed(9, [self.KEPT], 1000))
        self.is_fault("shut", deed(9, [self.OPENED, self.KEPT], 1000))

    def test_the_first_in_that_has_one(self):
        wrong = (("gone", self.GONE), ("green", self.GREEN), ("green", self.GREEN_KEPT), ("shut", self.KEPT))
        for (word, one), (last_word, other) in itertools.permutations(wrong, 2):
            for ahead in ([], [self.OPENED], [(1, 2), self.OPENED]):
                with self.subTest(word, last=last_word, ahead=len(ahead)):
                    self.is_fault(word, deed(9, ahead + [one, other], 1))
                    self.is_fault(word, deed(9, ahead + [one, (4, 0), other], 1))


class FactsTest(HoardCase):
    def is_free_where(self, row, number, thing, height):
        """The coin (1, 0) is locked by a fact that must be the number: the deed fits with it, and not with others."""
        for other, word in ((number, None), (number + 1, "shut"), (number - 1, "shut")):
            hoard = Hoard()
            hoard.do(maker(1, (50, (row, ("push", other), ("same",))), 20), 4, 0)
            hoard.do(maker(2, 20), 400, 0)
            with self.subTest(row=row, height=height, other=other):
                self.assertEqual(hoard.fault(thing, height), word)

    def test_height(self):
        for height in (0, 3, 4, 5, 100, BIG):
            self.is_free_where(("height",), height, deed(9, [(1, 0)], 7), height)

    def test_age(self):
        for height, age in ((4, 0), (5, 1), (100, 96), (BIG, BIG - 4)):
            self.is_free_where(("age",), age, deed(9, [(1, 0)], 7), height)

    def test_age_of_a_coin_made_at_a_greater_height(self):
        for height in (3, 1, 0):
            self.is_free_where(("age",), 0, deed(9, [(1, 0)], 7), height)

    def test_age_is_of_each_coin(self):
        lock = (("age",), ("push", 2), ("same",))
        self.hoard.do(maker(1, (5, lock)), 8, 0)
        self.hoard.do(maker(2, (5, lock)), 7, 0)
        self.is_fault(None, deed(9, [(1, 0)], 1), 10)
        self.is_fault("shut", deed(9, [(1, 0), (2, 0)], 1), 10)
        self.is_fault("shut", deed(9, [(2, 0), (1, 0)], 1), 10)
        self.is_fault(None, deed(9, [(2, 0)], 1), 9)

    def test_worth(self):
        self.is_free_where(("worth",), 50, deed(9, [(1, 0)], 7), 10)
        self.is_free_where(("worth",), 50, deed(9, [(1, 1), (1, 0)], 7), 10)

    def test_ins(self):
        self.is_free_where(("ins",), 1, deed(9, [(1, 0)], 7), 10)
        self.is_free_where(("ins",), 3, deed(9, [(1, 1), (1, 0), (2, 0)], 7), 10)

    def test_outs(self):
        self.is_free_where(("outs",), 1, deed(9, [(1, 0)], 7), 10)
        self.is_free_where(("outs",), 8, deed(9, [(1, 0)], 1, 1, 1, 1, 1, 1, 1, 1), 10)

    def test_paid(self):
        thing = deed(9, [(1, 0)], 7, 8, (9, FIVE))
        for place, worth in enumerate((7, 8, 9, 0, 0, 0, 0, 0, 0, 0)):
            self.is_free_where(("paid", place), worth, thing, 10)

    def test_keys(self):
        lock = (("sub",), ("push", 3), ("same",))
        self.hoard.do(maker(1, (50, lock)), 0, 0)
        self.is_fault(None, deed(9, [((1, 0), (8, 5))], 1))
        self.is_fault("shut", deed(9, [((1, 0), (5, 8))], 1))


class FeeTest(HoardCase):
    def test_of_a_maker(self):
        self.assertEqual(self.hoard.fee(maker(1, 50)), 0)
        self.assertEqual(self.hoard.fee(maker(1, *[RICH] * 8)), 0)

    def test_of_other_deeds(self):
        self.hoard.do(maker(1, 50, 20, RICH), 0, 0)
        for outs, fee in (((50,), 0), ((49,), 1), ((1,), 49), ((10, 10, 10), 20)):
            self.assertEqual(self.hoard.fee(deed(2, [(1, 0)], *outs)), fee)
        self.assertEqual(self.hoard.fee(deed(2, [(1, 0), (1, 1)], 45)), 25)
        self.assertEqual(self.hoard.fee(deed(2, [(1, 2)], 1)), RICH - 1)

    def test_at_some_height(self):
        self.hoard.do(maker(1, 50), 0, 100)
        self.assertEqual(self.hoard.fee(deed(2, [(1, 0)], 45)), 5)

    def test_asked_it_changes_nothing(self):
        self.hoard.do(maker(1, 50), 0, 0)
        ahead = all_of(self.hoard)
        self.assertEqual(self.hoard.fee(deed(2, [(1, 0)], 45)), 5)
        self.assertEqual(all_of(self.hoard), ahead)

    def test_what_is_held_is_less_by_the_fees(self):
        self.hoard.do(maker(1, 50, 20), 0, 0)
        self.hoard.do(deed(2, [(1, 0)], 30, 15), 1, 1)
        self.hoard.do(deed(3, [(1, 1), (2, 1)], 28), 1, 1)
        self.assertEqual(self.hoard.total(), 70 - 5 - 7)


class UndoTest(HoardCase):
    STEPS = (
        (maker(1, (50, FIVE), 20), 3, 9), (maker(2, 5), 3, 0), (deed(3, [(1, 1), (2, 0)], 10, 10, 5), 9, 9),
        (deed(4, [((1, 0), (5,)), (3, 1)], 60), 12, 11), (maker(5, 1), 12, 30), (deed(6, [(4, 0)], 59), 12, 12),
        (deed(7, [(6, 0), (3, 0), (3, 2)], 1, 1, 1, 1, 1, 1, 1, 1), 40, 40),
    )

    def test_undo_tells_none(self):
        self.assertIsNone(self.hoard.undo(self.hoard.do(maker(1, 50), 3, 3)))

    def test_a_deed_that_was_undone_may_be_done_again(self):
        for turn in range(3):
            note = self.hoard.do(maker(1, 50), 3, 3)
            self.assertTrue(self.hoard.did(1))
            self.hoard.undo(note)
            self.assertFalse(self.hoard.did(1))
            self.assertEqual(self.hoard.held(), {})
        self.hoard.do(maker(1, 20, 20), 5, 6)
        self.assertEqual(self.hoard.held(), {(1, 0): (20, OPEN, 5, 6), (1, 1): (20, OPEN, 5, 6)})

    def test_coins_that_went_are_held_as_ahead(self):
        self.hoard.do(maker(1, (50, FIVE), 20), 3, 9)
        note = self.hoard.do(deed(2, [((1, 0), (5,)), (1, 1)], 70), 12, 13)
        self.hoard.undo(note)
        self.assertEqual(self.hoard.held(), {(1, 0): (50, FIVE, 3, 9), (1, 1): (20, OPEN, 3, 9)})
        self.is_fault("gone", deed(5, [(2, 0)], 1))
        self.is_fault("green", deed(5, [(1, 1)], 1), 8)
        self.is_fault(None, deed(2, [(1, 1)], 20), 9)

    def test_all_is_as_it_was_behind_each(self):
        states, notes = [all_of(self.hoard)], []
        for step in self.STEPS:
            notes.append(self.hoard.do(*step))
            states.append(all_of(self.hoard))
        for turn in range(2):
            while notes:
                self.assertEqual(all_of(self.hoard), states[len(notes)])
                self.hoard.undo(notes.pop())
            self.assertEqual(all_of(self.hoard), states[0])
            for step in self.STEPS:
                notes.append(self.hoard.do(*step))
                self.assertEqual(all_of(self.hoard), states[len(notes)])

    def test_some_undone_and_others_done(self):
        notes = [self.hoard.do(*step) for step in self.STEPS[:4]]
        self.hoard.undo(notes.pop())
        self.hoard.undo(notes.pop())
        self.hoard.do(deed(3, [(1, 1)], 19), 10, 10)
        fresh = Hoard()
        for step in self.STEPS[:2] + ((deed(3, [(1, 1)], 19), 10, 10),):
            fresh.do(*step)
        self.assertEqual(all_of(self.hoard), all_of(fresh))

    def test_a_deed_that_is_refused_between(self):
        notes = [self.hoard.do(*step) for step in self.STEPS[:3]]
        ahead = all_of(self.hoard)
        for thing in (deed(8, [(3, 0), (1, 1)], 1), deed(8, [(3, 0)], 11), maker(2, 5), deed(8, [(1, 0)], 1)):
            self.assertIs(outcome(self.hoard.do, thing, 12, 12), NoFit)
            self.assertEqual(all_of(self.hoard), ahead)
        while notes:
            self.hoard.undo(notes.pop())
        self.assertEqual(all_of(self.hoard), ([], 0, []))


def told_fault(held, done, thing, height):
    """The words of the document once more, over what is held and which deeds were done."""
    number, ins, outs = thing
    if number in done:
        return "known"
    if any([ins[one][0] == ins[two][0] for one in range(len(ins)) for two in range(one)]):
        return "twice"
    for coin, keys in ins:
        if coin not in held:
            return "gone"
        worth, lock, made, free = held[coin]
        if height < free:
            return "green"
        age = height - made if height > made else 0
        if not opens(lock, keys, (height, age, worth, len(ins), len(outs), tuple([worth for worth, lock in outs]))):
            return "shut"
    if ins and sum([held[coin][0] for coin, keys in ins]) < worth_of(thing):
        return "less"
    return None


class ChanceTest(unittest.TestCase):
    """Deeds by chance, done and undone, the same ones each time, beside what is told by the deeds done alone."""

    LOCKS = (OPEN, OPEN, OPEN, FIVE, (("age",), ("push", 2), ("less",), ("not",)), (("ins",), ("push", 1), ("same",)))

    def setUp(self):
        self.chance = random.Random(2)

    def some_deed(self, coins):
        chance = self.chance
        count = 0 if not coins else chance.choice((0, 1, 1, 1, 2, 2, 3))
        ins = [(chance.choice(coins), chance.choice(((), (5,), (6,)))) for turn in range(count)]
        outs = [(chance.randint(1, 30), chance.choice(self.LOCKS)) for turn in range(chance.randint(1, 3))]
        return (chance.randint(1, 40), tuple(ins), tuple(outs))

    def test_deeds_by_chance(self):
        words = {}
        for turn in range(60):
            hoard, steps = Hoard(), []
            for step in range(60):
                held, done = self.told(steps)
                self.assertEqual(hoard.held(), held)
                self.assertEqual(hoard.total(), sum([kept[0] for kept in held.values()]))
                if steps and self.chance.randrange(4) == 0:
                    hoard.undo(steps.pop()[1])
                    continue
                coins = list(held) + [(number, 0) for number in done]
                thing, height = self.some_deed(coins), self.chance.randint(0, 6)
                word = told_fault(held, done, thing, height)
                words[word] = words.get(word, 0) + 1
                self.assertEqual(hoard.fault(thing, height), word)
                free = self.chance.randint(0, 6)
                if word is None:
                    steps.append(((thing, height, free), hoard.do(thing, height, free)))
                else:
                    self.assertIs(outcome(hoard.do, thing, height, free), NoFit)
        for word in (None, "known", "twice", "gone", "green", "shut", "less"):
            self.assertGreater(words[word], 20, word)

    def told(self, steps):
        made, spent = {}, []
        for (thing, height, free), note in steps:
            spent += [coin for coin, keys in thing[1]]
            for place, (worth, lock) in enumerate(thing[2]):
                made[(thing[0], place)] = (worth, lock, height, free)
        return {coin: made[coin] for coin in made if coin not in spent}, [step[0][0][0] for step in steps]


if __name__ == "__main__":
    unittest.main()
