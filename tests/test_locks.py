import unittest

from spentonce.locks import are_keys, is_lock
from strange import NO_TUPLES, NO_WHOLE_NUMBERS, NO_WORDS

LONE_WORDS = (
    "drop", "swap", "add", "sub", "mul", "less", "same", "not", "need",
    "height", "age", "worth", "ins", "outs",
)
BRANCH_WORDS = ("if", "else", "end")
PLACE_WORDS = ("copy", "paid")
MOST = 10 ** 50 - 1


def rows(text):
    return tuple([(word,) for word in text.split()])


def within(depth, first="if", last="end"):
    return rows(" ".join([first] * depth + [last] * depth))


class LockCase(unittest.TestCase):
    def is_one(self, thing):
        self.assertIs(is_lock(thing), True)

    def is_none(self, thing):
        self.assertIs(is_lock(thing), False)


class RowsTest(LockCase):
    def test_the_empty_lock(self):
        self.is_one(())

    def test_rows_of_one_word(self):
        for word in LONE_WORDS:
            with self.subTest(word):
                self.is_one(((word,),))

    def test_rows_of_one_word_take_nothing_behind(self):
        for word in LONE_WORDS:
            for more in ((0,), (1,), (None,), ("",), (word,), (0, 0)):
                with self.subTest(word, more=more):
                    self.is_none(((word,) + more,))

    def test_branch_words_take_nothing_behind(self):
        self.is_none((("if", 0), ("end",)))
        self.is_none((("if",), ("end", 0)))
        self.is_none((("if",), ("else", 0), ("end",)))
        self.is_one((("if",), ("else",), ("end",)))

    def test_push(self):
        for number in (0, 1, -1, 9, 10, 12345, -12345, MOST, -MOST):
            with self.subTest(number):
                self.is_one((("push", number),))

    def test_push_beyond_50_figures(self):
        for number in (MOST + 1, -MOST - 1, 10 ** 51, 10 ** 60, 10 ** 5000, -10 ** 5000):
            with self.subTest(digits=number.bit_length()):
                self.is_none((("push", number),))

    def test_copy_and_paid(self):
        for word in PLACE_WORDS:
            for place in range(10):
                with self.subTest(word, place=place):
                    self.is_one(((word, place),))

    def test_copy_and_paid_beyond_their_bounds(self):
        for word in PLACE_WORDS:
            for place in (-10, -2, -1, 10, 11, MOST, -MOST):
                with self.subTest(word, place=place):
                    self.is_none(((word, place),))

    def test_rows_of_two_parts_with_another_count(self):
        for word in ("push",) + PLACE_WORDS:
            with self.subTest(word):
                self.is_none(((word,),))
                self.is_none(((word, 1, 1),))
                self.is_none(((word, 1, 1, 1),))
                self.is_none(((1, word),))

    def test_no_whole_number_behind_the_word(self):
        for word in ("push",) + PLACE_WORDS:
            for place, thing in enumerate(NO_WHOLE_NUMBERS):
                with self.subTest(word, place=place):
                    self.is_none(((word, thing),))

    def test_no_such_word(self):
        for place, thing in enumerate(NO_WORDS):
            with self.subTest(place=place):
                self.is_none(((thing,),))
                self.is_none(((thing, 1),))

    def test_a_row_without_parts(self):
        self.is_none(((),))

    def test_one_wrong_row_among_right_ones(self):
        for wrong in (("push",), ("copy", 10), ("div",), ["drop"], None):
            for place in range(4):
                lock = [("push", 1), ("drop",), ("height",)]
                lock.insert(place, wrong)
                with self.subTest(wrong=wrong, place=place):
                    self.is_none(tuple(lock))


class WholeLockTest(LockCase):
    def test_how_many_rows(self):
        for count in (1, 2, 10, 29, 30):
            with self.subTest(count):
                self.is_one((("push", 1),) * count)
                self.is_one((("drop",),) * count)
        for count in (31, 32, 60, 1000):
            with self.subTest(count):
                self.is_none((("push", 1),) * count)

    def test_what_is_no_tuple(self):
        for place, thing in enumerate(NO_TUPLES):
            with self.subTest(place=place):
                self.is_none(thing)
                self.is_none((thing,))
                self.is_none((("drop",), thing))

    def test_a_list_for_a_tuple(self):
        self.is_none([])
        self.is_none([("push", 1)])
        self.is_none((["push", 1],))
        self.is_none((["drop"],))
        self.is_none((("push", 1), ["drop"]))
        self.is_none(rows("if") + (["end"],))

    def test_a_row_is_no_lock(self):
        self.is_none(("push", 1))
        self.is_none(("drop",))
        self.is_none(((("drop",),),))

    def test_what_is_handed_in_stays(self):
        lock = (("push", 5), ("if",), ("drop",), ("end",))
        like = (("push", 5), ("if",), ("drop",), ("end",))
        listed = [["push", 5]]
        self.is_one(lock)
        self.is_none(listed)
        self.is_one(lock)
        self.assertEqual(lock, like)
        self.assertEqual(listed, [["push", 5]])


class IfsTest(LockCase):
    def test_ifs_that_fit(self):
        for text in (
            "if end",
            "if else end",
            "if drop else drop end",
            "drop if drop end drop",
            "if end if end",
            "if else end if else end",
            "if if end end",
            "if if else end end",
            "if if end else end",
            "if if else end else end",
            "if else if end end",
            "if else if else end end",
            "if if else end else if else end end",
            "if if end if end else if end if end end",
        ):
            with self.subTest(text):
                self.is_one(rows(text))

    def test_ifs_that_do_not_fit(self):
        for text in (
            "if", "else", "end",
            "if else", "else end", "else if end", "end if", "else end if",
            "if end end", "if end else", "if end else end", "drop else drop", "drop end drop",
            "if else else end", "if drop else drop else drop end",
            "if if end", "if if else end", "if else if end", "if end if", "if if",
            "if if else else end end", "if else if end else end", "if else if else end else end",
            "if if end else else end", "if if end end end", "if if end end else",
            "end if end", "end end if if", "if end end if",
        ):
            with self.subTest(text):
                self.is_none(rows(text))

    def test_how_deep(self):
        for depth in range(1, 6):
            with self.subTest(depth):
                self.is_one(within(depth))
                self.is_one(within(depth, "if else"))
                self.is_one(within(depth, "if", "else end"))
        for depth in (6, 7):
            with self.subTest(depth):
                self.is_none(within(depth))
                self.is_none(within(depth, "if else"))
                self.is_none(within(depth, "if", "else end"))

    def test_deep_within_mixed_parts(self):
        self.is_one(rows("if else if if else if if end end end end end"))
        self.is_none(rows("if else if if else if if if end end end end end end"))

    def test_one_behind_the_other_as_often_as_the_rows_allow(self):
        self.is_one(rows("if end " * 15))
        self.is_one(rows("if else end " * 10))
        self.is_one(within(5) + within(5) + within(5))
        self.is_none(rows("if end " * 16))

    def test_six_deep_behind_five_deep(self):
        self.is_one(rows("if") + within(4) + within(4) + rows("else") + within(4) + rows("end"))
        self.is_none(within(5) + within(6))
        self.is_none(rows("if") + within(4) + within(5) + rows("end"))
        self.is_none(rows("if") + within(4) + rows("else") + within(5) + rows("end"))


class KeysTest(unittest.TestCase):
    def are(self, thing):
        self.assertIs(are_keys(thing), True)

    def are_not(self, thing):
        self.assertIs(are_keys(thing), False)

    def test_how_many(self):
        for count in (0, 1, 2, 9, 10):
            with self.subTest(count):
                self.are((7,) * count)
        for count in (11, 12, 20, 1000):
            with self.subTest(count):
                self.are_not((7,) * count)

    def test_how_many_figures(self):
        for number in (0, 1, -1, MOST, -MOST):
            with self.subTest(number):
                self.are((number,))
                self.are((0, number, 0))
        for number in (MOST + 1, -MOST - 1, 10 ** 51, 10 ** 5000, -10 ** 5000):
            with self.subTest(digits=number.bit_length()):
                self.are_not((number,))
                self.are_not((number, 0))
                self.are_not((0, number))

    def test_no_whole_numbers(self):
        for place, thing in enumerate(NO_WHOLE_NUMBERS):
            with self.subTest(place=place):
                self.are_not((thing,))
                self.are_not((thing, 1))
                self.are_not((1, thing))

    def test_no_tuples(self):
        for place, thing in enumerate(NO_TUPLES):
            with self.subTest(place=place):
                self.are_not(thing)

    def test_a_list_stays_as_it_is(self):
        keys = [1, 2]
        self.are_not(keys)
        self.assertEqual(keys, [1, 2])


if __name__ == "__main__":
    unittest.main()
