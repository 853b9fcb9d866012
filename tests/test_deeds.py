import unittest

from spentonce.deeds import checked, is_maker, made_by, worth_of
from spentonce.errors import CoinError, NoDeed
from strange import NO_TUPLES, NO_WHOLE_NUMBERS

BIG = 10 ** 30
RICH = 10 ** 40
LONG = 10 ** 50 - 1

IN = ((3, 0), (5, -2))
OUT = (50, (("push", 1),))
MAKER = (7, (), (OUT,))
DEED = (7, (IN, ((4, 1), ())), (OUT, (20, ())))


def numbered(number):
    return (number, (IN,), (OUT,))


def with_coin(coin):
    return (7, ((coin, (5,)),), (OUT,))


def with_keys(keys):
    return (7, (((3, 0), keys),), (OUT,))


def with_worth(worth):
    return (7, (IN,), ((worth, ()),))


def with_lock(lock):
    return (7, (IN,), ((50, lock),))


class DeedCase(unittest.TestCase):
    def is_one(self, thing):
        self.assertEqual(checked(thing), thing)

    def is_none(self, thing):
        with self.assertRaises(NoDeed) as taken:
            checked(thing)
        self.assertIsInstance(taken.exception, CoinError)
        self.assertIsInstance(taken.exception, ValueError)


class CheckedTest(DeedCase):
    def test_deeds(self):
        self.is_one(MAKER)
        self.is_one(DEED)
        self.assertEqual(checked(DEED), (7, (((3, 0), (5, -2)), ((4, 1), ())), ((50, (("push", 1),)), (20, ()))))

    def test_things_that_are_no_deed(self):
        for place, thing in enumerate(NO_TUPLES):
            with self.subTest(place=place):
                self.is_none(thing)

    def test_another_count_of_parts(self):
        self.is_none(())
        self.is_none((7,))
        self.is_none((7, ()))
        self.is_none((7, (OUT,)))
        self.is_none(DEED + (0,))
        self.is_none(DEED + ((),))
        self.is_none((DEED,))
        self.is_none((DEED[1], DEED[0], DEED[2]))
        self.is_none((DEED[0], DEED[2], DEED[1]))

    def test_a_list_in_the_place_of_a_tuple(self):
        self.is_none(list(DEED))
        self.is_none([7, (), (OUT,)])
        self.is_none((7, [], (OUT,)))
        self.is_none((7, [IN], (OUT,)))
        self.is_none((7, (list(IN),), (OUT,)))
        self.is_none((7, (IN,), [OUT]))
        self.is_none((7, (IN,), (list(OUT),)))
        self.is_none(with_coin([3, 0]))
        self.is_none(with_keys([5]))
        self.is_none(with_keys([]))
        self.is_none(with_lock([]))
        self.is_none(with_lock([("push", 1)]))
        self.is_none(with_lock((["push", 1],)))

    def test_the_number(self):
        for number in (1, 2, 7, BIG - 1, BIG):
            with self.subTest(number):
                self.is_one(numbered(number))
                self.is_one((number, (), (OUT,)))
        for number in (0, -1, -7, BIG + 1, -BIG, 10 ** 31, 10 ** 5000):
            with self.subTest(digits=number.bit_length()):
                self.is_none(numbered(number))
                self.is_none((number, (), (OUT,)))

    def test_no_whole_number_in_the_place_of_one(self):
        for place, thing in enumerate(NO_WHOLE_NUMBERS):
            with self.subTest(place=place):
                self.is_none(numbered(thing))
                self.is_none(with_coin((thing, 0)))
                self.is_none(with_coin((3, thing)))
                self.is_none(with_keys((thing,)))
                self.is_none(with_worth(thing))
                self.is_none(with_lock((("push", thing),)))
                self.is_none(with_lock((("copy", thing),)))

    def test_no_tuple_in_the_place_of_one(self):
        for place, thing in enumerate(NO_TUPLES):
            with self.subTest(place=place):
                self.is_none((7, thing, (OUT,)))
                self.is_none((7, (IN,), thing))
                self.is_none((7, (thing,), (OUT,)))
                self.is_none((7, (IN, thing), (OUT,)))
                self.is_none((7, (IN,), (thing,)))
                self.is_none((7, (IN,), (OUT, thing)))
                self.is_none(with_coin(thing))
                self.is_none(with_keys(thing))
                self.is_none(with_lock(thing))
                self.is_none(with_lock((thing,)))


class InsTest(DeedCase):
    def test_how_many(self):
        for count in range(9):
            with self.subTest(count):
                self.is_one((7, tuple([((place, 0), ()) for place in range(count)]), (OUT,)))
        for count in (9, 10, 100):
            with self.subTest(count):
                self.is_none((7, tuple([((place, 0), ()) for place in range(count)]), (OUT,)))

    def test_parts_of_an_in(self):
        self.is_none((7, ((),), (OUT,)))
        self.is_none((7, (((3, 0),),), (OUT,)))
        self.is_none((7, (((5,), (3, 0, 0)),), (OUT,)))
        self.is_none((7, (((3, 0), (), ()),), (OUT,)))
        self.is_none((7, ((3, 0, ()),), (OUT,)))
        self.is_none((7, IN, (OUT,)))

    def test_coins(self):
        for coin in ((0, 0), (1, 0), (0, 1), (3, 8), (BIG, 0), (0, BIG), (BIG, BIG), (7, 0)):
            with self.subTest(coin):
                self.is_one(with_coin(coin))
        for coin in ((-1, 0), (0, -1), (BIG + 1, 0), (0, BIG + 1), (10 ** 5000, 0), (0, 10 ** 5000),
                     (), (3,), (3, 0, 0), ((3, 0),), ((3,), (0,))):
            with self.subTest(parts=len(coin)):
                self.is_none(with_coin(coin))

    def test_one_coin_twice_is_for_the_hoard_to_judge(self):
        self.is_one((7, (IN, IN), (OUT,)))

    def test_keys(self):
        for keys in ((), (0,), (1,) * 10, (LONG,), (-LONG,)):
            with self.subTest(keys):
                self.is_one(with_keys(keys))
        for keys in ((1,) * 11, (LONG + 1,), (-LONG - 1,), (1, LONG + 1), ((1,),), ("1",)):
            with self.subTest(keys):
                self.is_none(with_keys(keys))

    def test_one_wrong_in_among_right_ones(self):
        for wrong in (((3, -1), ()), ((3, 0), (True,)), ((3, 0),), ((3, 0), (LONG + 1,))):
            for place in range(4):
                ins = [IN, IN, IN]
                ins.insert(place, wrong)
                with self.subTest(wrong=wrong, place=place):
                    self.is_none((7, tuple(ins), (OUT,)))


class OutsTest(DeedCase):
    def test_how_many(self):
        for count in range(1, 9):
            with self.subTest(count):
                self.is_one((7, (IN,), (OUT,) * count))
                self.is_one((7, (), (OUT,) * count))
        for count in (0, 9, 10, 100):
            with self.subTest(count):
                self.is_none((7, (IN,), (OUT,) * count))
                self.is_none((7, (), (OUT,) * count))

    def test_parts_of_an_out(self):
        self.is_none((7, (IN,), ((),)))
        self.is_none((7, (IN,), ((50,),)))
        self.is_none((7, (IN,), ((50, (), ()),)))
        self.is_none((7, (IN,), (((), 50),)))
        self.is_none((7, (IN,), OUT))

    def test_worths(self):
        for worth in (1, 2, 50, BIG + 1, RICH - 1, RICH):
            with self.subTest(worth):
                self.is_one(with_worth(worth))
        for worth in (0, -1, -50, RICH + 1, 10 ** 41, 10 ** 5000, -RICH):
            with self.subTest(digits=worth.bit_length()):
                self.is_none(with_worth(worth))

    def test_locks(self):
        for lock in ((), (("push", LONG),), (("drop",),) * 30, (("if",), ("else",), ("end",)), (("paid", 9),)):
            with self.subTest(lock):
                self.is_one(with_lock(lock))
        for lock in ((("push", LONG + 1),), (("drop",),) * 31, (("if",),), (("if",),) * 6 + (("end",),) * 6,
                     (("paid", 10),), (("copy", -1),), (("div",),), (("push",),), ("drop",), ((),)):
            with self.subTest(lock):
                self.is_none(with_lock(lock))

    def test_one_wrong_out_among_right_ones(self):
        for wrong in ((0, ()), (True, ()), (50,), (50, (("push",),)), (RICH + 1, ())):
            for place in range(4):
                outs = [OUT, OUT, OUT]
                outs.insert(place, wrong)
                with self.subTest(wrong=wrong, place=place):
                    self.is_none((7, (IN,), tuple(outs)))


class ToldTest(unittest.TestCase):
    def test_is_maker(self):
        self.assertIs(is_maker(MAKER), True)
        self.assertIs(is_maker(DEED), False)
        self.assertIs(is_maker((7, (IN,), (OUT,))), False)
        self.assertIs(is_maker((7, (IN,) * 8, (OUT,))), False)
        self.assertIs(is_maker((7, (), (OUT,) * 8)), True)

    def test_made_by(self):
        self.assertEqual(made_by(MAKER), [(7, 0)])
        self.assertEqual(made_by(DEED), [(7, 0), (7, 1)])
        most = (BIG, (IN,) * 8, (OUT,) * 8)
        self.assertEqual(made_by(most), [(BIG, place) for place in range(8)])
        self.assertIsInstance(made_by(MAKER)[0], tuple)

    def test_made_by_gives_a_new_list_each_time(self):
        first = made_by(DEED)
        first.append((1, 1))
        first[0] = None
        second = made_by(DEED)
        self.assertEqual(second, [(7, 0), (7, 1)])
        second.clear()
        self.assertEqual(made_by(DEED), [(7, 0), (7, 1)])
        self.assertEqual(first, [None, (7, 1), (1, 1)])

    def test_worth_of(self):
        self.assertEqual(worth_of(MAKER), 50)
        self.assertEqual(worth_of(DEED), 70)
        self.assertEqual(worth_of((7, (), ((1, ()),))), 1)
        self.assertEqual(worth_of((7, (IN,) * 8, ((RICH, ()),) * 8)), 8 * RICH)
        self.assertEqual(worth_of((7, (), tuple([(10 ** place, ()) for place in range(8)]))), 11111111)

    def test_what_is_handed_in_stays(self):
        deed = (7, (((3, 0), (5,)),), ((50, (("push", 1),)), (20, ())))
        checked(deed)
        is_maker(deed)
        made_by(deed)
        worth_of(deed)
        self.assertEqual(deed, (7, (((3, 0), (5,)),), ((50, (("push", 1),)), (20, ()))))

    def test_a_list_that_is_refused_stays(self):
        thing = [7, [], [[50, []]]]
        with self.assertRaises(NoDeed):
            checked(thing)
        self.assertEqual(thing, [7, [], [[50, []]]])


if __name__ == "__main__":
    unittest.main()
