import unittest

from chances import LockChance
from spentonce.trying import opens
from telling import FACT_WORDS, told_opens

FACTS = (11, 22, 33, 44, 55, (66, 77, 88))
MOST = 10 ** 60 - 1
SHUTTING = (("push", 0), ("need",))
# Rows that open whatever lies, as long as one more may lie.
OPENING = (("push", 1),)


def rows(text):
    found = []
    for part in text.split(","):
        words = part.split()
        if words:
            found.append((words[0],) + tuple([int(word) for word in words[1:]]))
    return tuple(found)


def emptied(numbers):
    """Rows that shut unless just these numbers lie on top, the last one on top, and take them off."""
    found = ()
    for number in reversed(numbers):
        found += (("push", number), ("same",), ("need",))
    return found


class TryingCase(unittest.TestCase):
    def opens(self, lock, keys=(), facts=FACTS):
        self.assertIs(opens(lock, keys, facts), True)

    def stays_shut(self, lock, keys=(), facts=FACTS):
        self.assertIs(opens(lock, keys, facts), False)

    def lies(self, lock, keys, numbers, facts=FACTS):
        """Behind the lock's rows just these numbers lie, the last one on top."""
        lock = lock + emptied(numbers)
        self.opens(lock + OPENING, keys, facts)
        self.stays_shut(lock, keys, facts)
        self.stays_shut(lock + rows("drop") + OPENING, keys, facts)


class RowsTest(TryingCase):
    def test_keys_are_laid_the_last_on_top(self):
        self.lies((), (), [])
        self.lies((), (5,), [5])
        self.lies((), (5, -6, 7), [5, -6, 7])
        self.lies((), tuple(range(1, 11)), list(range(1, 11)))

    def test_push(self):
        self.lies(rows("push 5"), (), [5])
        self.lies(rows("push 0, push -3"), (9,), [9, 0, -3])

    def test_copy(self):
        keys = tuple(range(10, 20))
        for place in range(10):
            with self.subTest(place):
                self.lies((("copy", place),), keys, list(keys) + [19 - place])

    def test_drop(self):
        self.lies(rows("drop"), (5, 6, 7), [5, 6])
        self.lies(rows("drop"), (5,), [])

    def test_swap(self):
        self.lies(rows("swap"), (5, 6, 7), [5, 7, 6])
        self.lies(rows("swap"), (5, 6), [6, 5])
        self.lies(rows("swap, swap"), (5, 6), [5, 6])

    def test_add(self):
        for a, b, outcome in ((3, 4, 7), (-3, 4, 1), (3, -4, -1), (-3, -4, -7), (0, 5, 5), (5, -5, 0)):
            with self.subTest(a=a, b=b):
                self.lies(rows("add"), (9, a, b), [9, outcome])

    def test_sub(self):
        for a, b, outcome in ((3, 4, -1), (4, 3, 1), (-3, 4, -7), (3, -4, 7), (-3, -4, 1), (0, 5, -5), (5, 0, 5)):
            with self.subTest(a=a, b=b):
                self.lies(rows("sub"), (9, a, b), [9, outcome])

    def test_mul(self):
        for a, b, outcome in ((3, 4, 12), (-3, 4, -12), (3, -4, -12), (-3, -4, 12), (0, 5, 0), (5, 0, 0), (1, 5, 5)):
            with self.subTest(a=a, b=b):
                self.lies(rows("mul"), (9, a, b), [9, outcome])

    def test_less(self):
        for a, b, outcome in ((3, 4, 1), (4, 3, 0), (4, 4, 0), (-4, -3, 1), (-3, -4, 0), (-1, 0, 1), (0, -1, 0)):
            with self.subTest(a=a, b=b):
                self.lies(rows("less"), (9, a, b), [9, outcome])

    def test_same(self):
        for a, b, outcome in ((3, 3, 1), (3, 4, 0), (4, 3, 0), (-3, 3, 0), (3, -3, 0), (-3, -3, 1), (0, 0, 1)):
            with self.subTest(a=a, b=b):
                self.lies(rows("same"), (9, a, b), [9, outcome])
        self.lies(rows("same"), (10 ** 49, 10 ** 49), [1])
        self.lies(rows("same"), (10 ** 49, 10 ** 49 + 1), [0])

    def test_not(self):
        for number, outcome in ((0, 1), (1, 0), (2, 0), (-1, 0), (10 ** 49, 0)):
            with self.subTest(number):
                self.lies(rows("not"), (9, number), [9, outcome])

    def test_need(self):
        for number in (1, 2, -1, 10 ** 49):
            with self.subTest(number):
                self.lies(rows("need"), (9, number), [9])
                self.lies(rows("need"), (0, number), [0])
        self.stays_shut(rows("need"), (9, 0))
        self.stays_shut(rows("need, push 1"), (9, 0))

    def test_facts(self):
        for place, word in enumerate(FACT_WORDS):
            with self.subTest(word):
                self.lies(rows(word), (9,), [9, FACTS[place]])
        self.lies(rows("outs, ins, worth, age, height"), (), [55, 44, 33, 22, 11])
        self.lies(rows("height, age, worth, ins, outs"), (), [0, 1, 2, 3, 4], (0, 1, 2, 3, 4, ()))

    def test_paid(self):
        for place, outcome in ((0, 66), (1, 77), (2, 88), (3, 0), (4, 0), (9, 0)):
            with self.subTest(place):
                self.lies((("paid", place),), (9,), [9, outcome])

    def test_paid_where_there_is_none(self):
        for place in range(10):
            with self.subTest(place):
                self.lies((("paid", place),), (9,), [9, 0], (1, 2, 3, 4, 5, ()))

    def test_paid_of_ten(self):
        paid = tuple(range(100, 110))
        for place in range(10):
            with self.subTest(place):
                self.lies((("paid", place),), (), [100 + place], (1, 2, 3, 4, 5, paid))

    def test_paid_of_places_beyond_the_bound(self):
        self.lies(rows("paid -1"), (), [0])
        self.lies(rows("paid -3"), (), [0])
        self.lies(rows("paid 10"), (), [0])

    def test_locks_of_several_rows(self):
        self.opens(rows("push 5, same"), (5,))
        self.stays_shut(rows("push 5, same"), (6,))
        self.opens(rows("height, push 10, less, not"), (), FACTS)
        self.stays_shut(rows("height, push 10, less"), (), FACTS)
        self.opens(rows("copy 0, mul, push 49, same, need, paid 0, push 66, same"), (7,))
        self.opens(rows("copy 0, mul, push 49, same, need, paid 0, push 66, same"), (-7,))
        self.stays_shut(rows("copy 0, mul, push 49, same, need, paid 0, push 66, same"), (8,))


class IfsTest(TryingCase):
    def test_if_without_else(self):
        lock = rows("if, push 5, end, push 6")
        for number in (1, 2, -1, 10 ** 49):
            with self.subTest(number):
                self.lies(lock, (9, number), [9, 5, 6])
        self.lies(lock, (9, 0), [9, 6])

    def test_if_with_else(self):
        lock = rows("if, push 5, else, push 7, push 8, end, push 6")
        for number in (1, 2, -1):
            with self.subTest(number):
                self.lies(lock, (9, number), [9, 5, 6])
        self.lies(lock, (9, 0), [9, 7, 8, 6])

    def test_empty_parts(self):
        for number in (0, 1):
            with self.subTest(number):
                self.lies(rows("if, end"), (9, number), [9])
                self.lies(rows("if, else, end"), (9, number), [9])
        self.lies(rows("if, else, push 5, end"), (9, 1), [9])
        self.lies(rows("if, else, push 5, end"), (9, 0), [9, 5])
        self.lies(rows("if, push 5, else, end"), (9, 1), [9, 5])
        self.lies(rows("if, push 5, else, end"), (9, 0), [9])

    def test_one_behind_the_other(self):
        lock = rows("if, push 5, else, push 6, end, swap, if, push 7, else, push 8, end")
        self.lies(lock, (1, 1), [5, 7])
        self.lies(lock, (1, 0), [6, 7])
        self.lies(lock, (0, 1), [5, 8])
        self.lies(lock, (0, 0), [6, 8])

    def test_within_the_first_part(self):
        lock = rows("if, push 1, if, push 2, else, push 3, end, push 4, else, push 5, end, push 6")
        self.lies(lock, (1,), [2, 4, 6])
        self.lies(lock, (0,), [5, 6])
        lock = rows("if, push 0, if, push 2, else, push 3, end, push 4, else, push 5, end, push 6")
        self.lies(lock, (1,), [3, 4, 6])
        self.lies(lock, (0,), [5, 6])

    def test_within_the_second_part(self):
        lock = rows("if, push 5, else, if, push 2, else, push 3, end, push 4, end, push 6")
        self.lies(lock, (8, 1), [8, 5, 6])
        self.lies(lock, (1, 0), [2, 4, 6])
        self.lies(lock, (0, 0), [3, 4, 6])

    def test_within_a_part_without_else(self):
        lock = rows("if, if, push 2, end, push 4, end, push 6")
        self.lies(lock, (1, 1), [2, 4, 6])
        self.lies(lock, (0, 1), [4, 6])
        self.lies(lock, (1, 0), [1, 6])

    def test_five_within_one_another(self):
        lock = rows("if, if, if, if, if, push 1, else, push 2, end, else, push 3, end, else, push 4, end, "
                    "else, push 5, end, else, push 6, end")
        for zeros, outcome in ((0, 1), (1, 2), (2, 3), (3, 4), (4, 5), (5, 6)):
            with self.subTest(zeros):
                keys = [1] * 5
                if zeros:
                    keys[zeros - 1] = 0
                left = [1] * (zeros - 1) if zeros else []
                self.lies(lock, tuple(keys), left + [outcome])

    def test_the_condition_is_taken_off(self):
        self.lies(rows("if, end"), (5, 6), [5])
        self.lies(rows("if, end"), (5, 0), [5])
        self.stays_shut(rows("if, end"), (1,))

    def test_beyond_the_bounds_of_a_lock(self):
        deep = rows("push 1, if, " * 8 + "push 7, " + "end, " * 8)
        self.lies(deep, (), [7])
        self.lies(rows("push 1, drop, " * 40), (5,), [5])


class ShutTest(TryingCase):
    def test_each_row_with_enough_and_with_one_less(self):
        wants = {
            "drop": 1, "swap": 2, "add": 2, "sub": 2, "mul": 2, "less": 2, "same": 2, "not": 1, "need": 1,
        }
        for word, count in wants.items():
            with self.subTest(word):
                self.opens(rows(word) + OPENING, (1,) * count)
                self.stays_shut(rows(word) + OPENING, (1,) * (count - 1))
                self.stays_shut(rows(word) + OPENING, ())

    def test_if_with_enough_and_with_one_less(self):
        for lock in (rows("if, end, push 1"), rows("if, else, end, push 1")):
            self.opens(lock, (1,))
            self.opens(lock, (0,))
            self.stays_shut(lock, ())

    def test_copy_with_enough_and_with_one_less(self):
        for place in range(10):
            with self.subTest(place):
                lock = (("copy", place),) + OPENING
                self.opens(lock, (0,) * (place + 1))
                self.stays_shut(lock, (0,) * place)
        self.stays_shut(rows("copy 0, push 1"))

    def test_copy_beyond_the_bound_of_a_lock(self):
        self.lies(rows("push 2, copy 10"), tuple(range(50, 60)), list(range(50, 60)) + [2, 50])
        self.stays_shut(rows("copy 10, push 1"), (1,) * 10)
        self.stays_shut(rows("copy -1, push 1"))

    def test_rows_that_want_nothing(self):
        for text in ("push 5", "paid 0", "paid 9") + FACT_WORDS:
            with self.subTest(text):
                self.opens(rows(text) + OPENING)

    def test_need_at_nought(self):
        self.stays_shut(rows("push 0, need, push 1"))
        self.stays_shut(rows("push 1, push 0, need"))
        self.opens(rows("push 0, push 1, need, push 1"))

    def test_nothing_at_the_end(self):
        self.stays_shut(rows("push 1, drop"))
        self.stays_shut(rows("push 1, need"))
        self.stays_shut(rows("drop"), (1,))

    def test_nought_on_top_at_the_end(self):
        self.stays_shut(rows("push 1, push 0"))
        self.stays_shut(rows("push 0"))
        self.stays_shut(rows("push 0"), (1,))

    def test_what_opens_at_the_end(self):
        for number in (1, 2, -1, -2, MOST, -MOST):
            with self.subTest(number):
                self.opens((("push", number),))
                self.opens((("push", 0), ("push", number)))

    def test_the_empty_lock(self):
        self.stays_shut((), ())
        self.stays_shut((), (0,))
        self.stays_shut((), (5, 0))
        self.opens((), (1,))
        self.opens((), (-1,))
        self.opens((), (0, 5))
        self.opens((), (0,) * 9 + (1,))

    def test_facts_that_are_nought(self):
        for word in FACT_WORDS + ("paid 0",):
            with self.subTest(word):
                self.stays_shut(rows(word), (1,), (0, 0, 0, 0, 0, (0,)))
                self.opens(rows(word), (), (1, 1, 1, 1, 1, (1,)))


class FiguresTest(TryingCase):
    def test_push(self):
        for number in (MOST, -MOST):
            self.lies((("push", number),), (), [number])
            self.opens((("push", number), ("drop",)) + OPENING)
        for number in (MOST + 1, -MOST - 1, 10 ** 61):
            self.stays_shut((("push", number),))
            self.stays_shut((("push", number), ("drop",)) + OPENING)

    def test_keys(self):
        for number in (MOST, -MOST):
            self.lies((), (1, number, 2), [1, number, 2])
        for number in (MOST + 1, -MOST - 1):
            self.stays_shut((), (number,))
            self.stays_shut(rows("drop, drop, drop") + OPENING, (1, number, 2))

    def test_add(self):
        half = 5 * 10 ** 59
        self.lies(rows("add"), (half, half - 1), [MOST])
        self.lies(rows("add"), (-half, 1 - half), [-MOST])
        self.lies(rows("add"), (MOST, 0), [MOST])
        self.stays_shut(rows("add"), (half, half))
        self.stays_shut(rows("add, drop, push 1"), (half, half))
        self.stays_shut(rows("add, drop, push 1"), (-half, -half))
        self.stays_shut(rows("add, drop, push 1"), (MOST, 1))

    def test_sub(self):
        self.lies(rows("sub"), (MOST - 1, -1), [MOST])
        self.lies(rows("sub"), (1 - MOST, 1), [-MOST])
        self.stays_shut(rows("sub"), (MOST, -1))
        self.stays_shut(rows("sub, drop, push 1"), (MOST, -1))
        self.stays_shut(rows("sub, drop, push 1"), (-MOST, 1))

    def test_mul(self):
        self.lies(rows("mul"), (10 ** 29, 10 ** 30), [10 ** 59])
        self.lies(rows("mul"), (10 ** 30 - 1, 10 ** 30 + 1), [MOST])
        self.lies(rows("mul"), (10 ** 30 - 1, -10 ** 30 - 1), [-MOST])
        self.stays_shut(rows("mul"), (10 ** 30, 10 ** 30))
        self.stays_shut(rows("mul, drop, push 1"), (10 ** 30, 10 ** 30))
        self.stays_shut(rows("mul, drop, push 1"), (10 ** 30, -10 ** 30))
        self.stays_shut(rows("mul, drop, push 1"), (MOST, MOST))

    def test_facts(self):
        for place, word in enumerate(FACT_WORDS):
            with self.subTest(word):
                facts = list(FACTS)
                facts[place] = MOST
                self.lies(rows(word), (), [MOST], tuple(facts))
                facts[place] = MOST + 1
                self.stays_shut(rows(word), (), tuple(facts))
                self.stays_shut(rows(word) + rows("drop, push 1"), (), tuple(facts))

    def test_paid(self):
        facts = (1, 2, 3, 4, 5, (MOST, MOST + 1, -MOST, -MOST - 1))
        self.lies(rows("paid 0"), (), [MOST], facts)
        self.lies(rows("paid 2"), (), [-MOST], facts)
        self.stays_shut(rows("paid 1, drop, push 1"), (), facts)
        self.stays_shut(rows("paid 3, drop, push 1"), (), facts)

    def test_facts_that_are_not_laid_shut_nothing(self):
        facts = (10 ** 70,) * 5 + ((10 ** 70,),)
        self.opens(rows("push 1"), (), facts)
        self.opens(rows("paid 1, push 1"), (), facts)


class HowManyTest(TryingCase):
    def test_by_push(self):
        self.opens(OPENING * 20)
        self.stays_shut(OPENING * 21)
        self.stays_shut(OPENING * 21 + rows("drop, drop, drop"))

    def test_by_keys(self):
        self.opens((), (1,) * 20)
        self.stays_shut((), (1,) * 21)
        self.stays_shut(rows("drop, drop"), (1,) * 21)

    def test_by_keys_and_push(self):
        self.opens(OPENING * 10, (1,) * 10)
        self.stays_shut(OPENING * 11, (1,) * 10)
        self.stays_shut(OPENING * 11 + rows("drop, drop"), (1,) * 10)

    def test_by_copy(self):
        for place in (0, 9, 18):
            with self.subTest(place):
                lock = (("copy", place),)
                self.opens(lock, (1,) * 19)
                self.stays_shut(lock, (1,) * 20)
                self.stays_shut(lock + rows("drop, drop"), (1,) * 20)

    def test_by_facts_and_paid(self):
        for word in FACT_WORDS + ("paid 0", "paid 1", "paid 9"):
            with self.subTest(word):
                self.opens(rows(word) + rows("drop"), (1,) * 19)
                self.stays_shut(rows(word) + rows("drop"), (1,) * 20)

    def test_rows_that_lay_what_they_took(self):
        for text in ("swap", "not, not", "add", "sub, push 1", "mul", "less, push 1", "same", "need, push 1",
                     "drop, push 1", "if, push 1, end", "if, end, push 1"):
            with self.subTest(text):
                self.opens(rows(text), (1,) * 20)

    def test_dropped_ones_lie_no_more(self):
        self.opens(rows("push 1, drop, " * 15), (1,) * 19)
        self.opens(rows("drop, push 1, " * 15), (1,) * 20)


class NotDoneTest(TryingCase):
    WOULD_SHUT = (
        rows("drop"), rows("swap"), rows("add"), rows("sub"), rows("mul"), rows("less"), rows("same"),
        rows("not"), rows("need"), rows("copy 0"), rows("copy 9"), SHUTTING, rows("push 0"),
        (("push", 10 ** 60),), (("push", 10 ** 59), ("push", 10), ("mul",)), rows("height"), rows("paid 0"),
        OPENING * 21, rows("drop, drop, drop"), rows("swap, add, mul"),
    )
    FACTS = (10 ** 70,) * 5 + ((10 ** 70,),)

    def test_in_the_first_part(self):
        for place, part in enumerate(self.WOULD_SHUT):
            with self.subTest(place=place):
                self.lies(rows("if") + part + rows("end"), (0,), [], self.FACTS)
                self.lies(rows("if") + part + rows("else, push 5, end"), (0,), [5], self.FACTS)

    def test_in_the_second_part(self):
        for place, part in enumerate(self.WOULD_SHUT):
            with self.subTest(place=place):
                self.lies(rows("if, push 5, else") + part + rows("end"), (1,), [5], self.FACTS)
                self.lies(rows("if, else") + part + rows("end"), (1,), [], self.FACTS)

    def test_ifs_within(self):
        for place, part in enumerate(self.WOULD_SHUT):
            for within in (
                rows("if") + part + rows("end"),
                rows("if") + part + rows("else") + part + rows("end"),
                rows("if, else") + part + rows("end"),
                part + rows("if") + part + rows("else") + part + rows("end") + part,
                rows("if, if") + part + rows("else") + part + rows("end, else, if")
                + part + rows("else") + part + rows("end, end"),
            ):
                with self.subTest(place=place, within=len(within)):
                    self.lies(rows("if") + within + rows("end"), (0,), [], self.FACTS)
                    self.lies(rows("if") + within + rows("else, push 5, end, push 6"), (0,), [5, 6], self.FACTS)
                    self.lies(rows("if, push 5, else") + within + rows("end, push 6"), (1,), [5, 6], self.FACTS)

    def test_ifs_that_are_not_done_take_nothing(self):
        self.lies(rows("if, if, end, end"), (5, 6, 0), [5, 6])
        self.lies(rows("if, else, if, else, end, end"), (5, 6, 1), [5, 6])

    def test_the_same_rows_shut_where_they_are_done(self):
        for part in (rows("drop"), rows("add"), rows("copy 0"), SHUTTING, (("push", 10 ** 60),), OPENING * 21):
            self.stays_shut(rows("if") + part + rows("end, push 1"), (1,))
            self.stays_shut(rows("if, else") + part + rows("end, push 1"), (0,))
            self.stays_shut(rows("if, push 1, if") + part + rows("end, end, push 1"), (1,))


class AskedAgainTest(TryingCase):
    def test_what_was_asked_ahead_changes_nothing(self):
        lock = rows("push 5, same, need, paid 0, if, push 3, else, push 0, end")
        paid, unpaid = (1, 2, 3, 4, 5, (6,)), (1, 2, 3, 4, 5, ())
        for turn in range(3):
            self.opens(lock, (5,), paid)
            self.stays_shut(lock, (6,), paid)
            self.stays_shut(lock, (5,), unpaid)
            self.stays_shut(lock, (), paid)

    def test_what_is_handed_in_stays(self):
        lock, keys, facts = rows("swap, drop, height, add"), (5, 6), (1, 2, 3, 4, 5, (6, 7))
        self.opens(lock, keys, facts)
        self.assertEqual(lock, (("swap",), ("drop",), ("height",), ("add",)))
        self.assertEqual(keys, (5, 6))
        self.assertEqual(facts, (1, 2, 3, 4, 5, (6, 7)))


class ChanceTest(unittest.TestCase):
    def test_locks_by_chance(self):
        chance = LockChance(1)
        counts = {True: 0, False: 0}
        for turn in range(4000):
            lock, keys, facts = chance.lock(chance.random.randrange(20), 4), chance.keys(), chance.facts()
            outcome = told_opens(lock, keys, facts)
            counts[outcome] += 1
            if opens(lock, keys, facts) is not outcome:
                self.fail(f"opens({lock}, {keys}, {facts}) is not {outcome}")
        self.assertGreater(min(counts.values()), 400)


if __name__ == "__main__":
    unittest.main()
