import itertools
import unittest

from making import FIVE, deed, lone, maker, outcome
from spentonce.errors import CoinError, NoBlock, NoDeed, NoLock, NoText
from spentonce.locks import LONE_WORDS
from spentonce.reading import read_block, read_coin, read_deed, read_lock, read_number
from spentonce.showing import shown_block, shown_deed, shown_lock
from strange import NO_TUPLES

BIG = 10 ** 30
READERS = (read_number, read_coin, read_lock, read_deed, read_block)

# Signs that Python counts among figures or blanks, or lets stand within numbers, but that none here are.
ONE_ARABIC, ONE_WIDE, SUPERSCRIPT, LONG_BLANK = "\u0661", "\uff11", "\u00b9", "\u00a0"

# The signs of the first 256 places, and some of other scripts that Python counts among figures or small letters.
SIGNS = [chr(place) for place in range(256)] + [ONE_ARABIC, ONE_WIDE, "\u0430", "\uff41", "\u017f", "\u0131"]

NO_NUMBERS = (
    "", " ", "-", "--1", "-0", "-00", "00", "01", "-01", "007", "+1", "+0", "+-1", "-+1", " 1", "1 ", "- 1",
    "1\n", "\n1", "1\n2", "1\r", "1\t", "\t1", "1_0", "1,0", "1.0", "1.", ".1", "1e3", "0x1", "0b1", "a", "one", "1a",
    ONE_ARABIC, ONE_WIDE, SUPERSCRIPT, "1" + ONE_ARABIC, LONG_BLANK + "1", "1" + LONG_BLANK, "\u2212" + "1", "\ud800",
    "1\0", "1" * 61, "-" + "1" * 61, "0" * 60, "1" * 5000, "inf", "nan", "True", "None",
)


class ReadingCase(unittest.TestCase):
    def reads(self, reader, shower, text, thing):
        self.assertEqual(reader(text), thing)
        self.assertEqual(shower(thing), text)

    def refuses(self, refusal, reader, *texts):
        for text in texts:
            with self.subTest(text=text):
                with self.assertRaises(refusal) as taken:
                    reader(text)
                self.assertIsInstance(taken.exception, CoinError)


class NoTextTest(ReadingCase):
    def test_things_that_are_no_text(self):
        things = [thing for thing in NO_TUPLES if not isinstance(thing, str)]
        for thing in things + [(), ("1",), ["1"], (7, 0), ((),), FIVE, maker(7, 1), lone(1, 0), b"1", b"-", 7]:
            for reader in READERS:
                self.assertIs(outcome(reader, thing), NoText)

    def test_texts_that_nothing_is_written_by(self):
        for text in ("", " ", "\n", "\t", ";", "; ", "|", " | ", ",", ", ", "?", "\u00e9", "\ud800", "\0"):
            for reader in READERS:
                self.assertIs(outcome(reader, text), NoText)


class NumberTest(ReadingCase):
    def reads_number(self, text, number):
        self.assertEqual(read_number(text), number)
        self.assertIs(read_number(text).__class__, int)

    def test_numbers(self):
        for number in (0, 1, -1, 7, -7, 9, 10, -10, 100, 1234567890, BIG, -BIG, 10 ** 59, -10 ** 59):
            self.reads_number(str(number), number)

    def test_each_figure(self):
        for figure in range(10):
            self.reads_number(str(figure), figure)
            self.reads_number(f"1{figure}", 10 + figure)

    def test_each_sign_that_is_no_figure(self):
        for sign in SIGNS:
            if sign not in "0123456789":
                self.refuses(NoText, read_number, f"1{sign}", f"1{sign}1", f"-1{sign}")
                if sign != "-":
                    self.refuses(NoText, read_number, sign, f"{sign}1", f"-{sign}1")

    def test_how_many_figures(self):
        self.reads_number("9" * 60, 10 ** 60 - 1)
        self.reads_number("-" + "9" * 60, 1 - 10 ** 60)
        self.refuses(NoText, read_number, "9" * 61, "-" + "9" * 61, str(10 ** 60), str(-10 ** 60))

    def test_texts_that_are_no_numbers(self):
        self.refuses(NoText, read_number, "1 2", *NO_NUMBERS)


class CoinTest(ReadingCase):
    def test_coins(self):
        for coin in ((7, 0), (0, 0), (0, 7), (10, 20), (BIG, BIG), (BIG + 1, 3), (10 ** 59, 10 ** 60 - 1)):
            self.assertEqual(read_coin(f"{coin[0]}.{coin[1]}"), coin)
            self.assertIsInstance(read_coin(f"{coin[0]}.{coin[1]}"), tuple)

    def test_texts_that_are_no_coins(self):
        self.refuses(
            NoText, read_coin, "7", "7.", ".0", ".", "..", "7..0", "7.0.", ".7.0", "7.0.0", "7,0", "7:0", "7 0", "7 .0",
            "7. 0", " 7.0", "7.0 ", "7.0\n", "-7.0", "7.-0", "7.-1", "-0.0", "-1.-1", "07.0", "7.00", "+7.0", "7.+0",
            "1" * 61 + ".0", "0." + "1" * 61, "a.0", "7.a", ONE_ARABIC + ".0", "7." + ONE_WIDE,
        )

    def test_each_number_is_written_so(self):
        for text in NO_NUMBERS:
            if "." not in text:
                self.refuses(NoText, read_coin, f"{text}.0", f"7.{text}")


class LockTest(ReadingCase):
    def reads_lock(self, text, lock):
        self.reads(read_lock, shown_lock, text, lock)

    def test_the_empty_lock(self):
        self.reads_lock("-", ())

    def test_each_row(self):
        for word in LONE_WORDS:
            if word not in ("if", "else", "end"):
                self.reads_lock(word, ((word,),))
        self.reads_lock("if, else, end", (("if",), ("else",), ("end",)))
        self.reads_lock("push 5", (("push", 5),))
        for number in range(10):
            self.reads_lock(f"copy {number}", (("copy", number),))
            self.reads_lock(f"paid {number}", (("paid", number),))

    def test_several_rows(self):
        self.reads_lock("push 5, same", FIVE)
        self.reads_lock("push -5, push 0, drop", (("push", -5), ("push", 0), ("drop",)))
        self.reads_lock(
            "if, if, push 1, end, else, copy 3, end, age",
            (("if",), ("if",), ("push", 1), ("end",), ("else",), ("copy", 3), ("end",), ("age",)),
        )

    def test_how_many_rows(self):
        self.reads_lock(", ".join(["add"] * 30), (("add",),) * 30)
        self.refuses(NoLock, read_lock, ", ".join(["add"] * 31), ", ".join(["push 1"] * 31))

    def test_the_bounds_of_numbers(self):
        most = 10 ** 50 - 1
        self.reads_lock(f"push {most}", (("push", most),))
        self.reads_lock(f"push {-most}", (("push", -most),))
        self.refuses(NoLock, read_lock, f"push {most + 1}", f"push {-most - 1}", f"push {10 ** 60 - 1}")
        self.refuses(NoText, read_lock, "push " + "9" * 61, "push -" + "9" * 61)
        self.refuses(NoLock, read_lock, "copy 10", "copy -1", "paid 10", "paid -1", f"copy {BIG}")

    def test_unknown_words(self):
        self.refuses(
            NoLock, read_lock, "div", "in", "out", "on", "weight", "pushs", "pus", "p", "z", "div 5", "in 5", "x 1 2 3",
            "push 5, div", "div, push 5", "add, in, add", "qwertyuiopasdfghjklzxcvbnm",
        )

    def test_each_sign_of_a_word(self):
        for sign in SIGNS:
            small = sign in "abcdefghijklmnopqrstuvwxyz"
            for word in (f"{sign}zz", f"z{sign}z"):
                if sign not in " ,":
                    self.refuses(NoLock if small else NoText, read_lock, word, f"{word} 1", f"add, {word}")

    def test_another_count_of_numbers(self):
        self.refuses(
            NoLock, read_lock, "push", "push 1 2", "copy", "copy 1 2", "paid", "paid 1 1", "add 1", "drop 0", "end 1",
            "if 1, end", "if, else 0, end", "push 1, push", "push 1, swap 2",
        )
        for word in LONE_WORDS:
            self.refuses(NoLock, read_lock, f"{word} 1", f"{word} 1 2")

    def test_ifs_that_do_not_fit(self):
        self.refuses(
            NoLock, read_lock, "if", "else", "end", "if, else", "else, end", "end, if", "if, end, end", "if, if, end",
            "if, else, else, end", "push 1, if", ", ".join(["if"] * 6 + ["end"] * 6),
        )
        self.assertEqual(read_lock(", ".join(["if"] * 5 + ["end"] * 5)), (("if",),) * 5 + (("end",),) * 5)

    def test_not_of_the_form(self):
        self.refuses(
            NoText, read_lock, "", " ", "--", "- ", " -", "-, -", "-, add", "add, -", "-1", "5", "5, add", "add, 5",
            "add,", "add, ", ", add", ",add", "add,sub", "add ,sub", "add , sub", "add,  sub", "add,, sub",
            "add, , sub", "add sub", "push  5", " push 5", "push 5 ", "push 5, ", "push 5 , add", "push 5;",
            "push 5; add", "add;", "Push 5", "PUSH 5", "pusH 5", "ADD", "add, Sub", "pu-sh 5", "push5", "push_ 5",
            "push. 5", "a1", "1a", "push a", "push 5 a", "push -", "push -0", "push 05", "push +5", "push 5.0",
            "push '5'", "push\t5", "push\n5", "push 5\n", "\npush 5", "add\n", "add,\nsub", "add\n, sub",
            "push " + ONE_ARABIC, "push 5 " + ONE_WIDE, LONG_BLANK + "add", "push" + LONG_BLANK + "5", "\u0430dd",
            "\u00e9", "add\u00e9", "\uff41dd", "\u017f", "('add',)", "()", "add | sub", "| add",
        )

    def test_each_number_is_written_so(self):
        for text in NO_NUMBERS:
            self.refuses(NoText, read_lock, f"push {text}", f"add, push {text}", f"push {text}, add")

    def test_no_text_ahead_of_no_lock(self):
        bad = ("div", "add 1", "copy 10", "end", "push")
        wrong = ("Add", "", "push 05", "add ", "5", "-", "push " + "1" * 61)
        for one, two in itertools.product(bad, wrong):
            self.refuses(NoText, read_lock, f"{one}, {two}", f"{two}, {one}")


class DeedTest(ReadingCase):
    def reads_deed(self, text, thing):
        self.reads(read_deed, shown_deed, text, thing)

    def test_the_document_s_own(self):
        self.reads_deed("7; in 3.0 5 -2; in 4.1; out 50 push 1; out 20 -", (
            7, (((3, 0), (5, -2)), ((4, 1), ())), ((50, (("push", 1),)), (20, ())),
        ))

    def test_deeds(self):
        self.reads_deed("1; out 1 -", maker(1, (1, ())))
        self.reads_deed("1; out 1 push 1", maker(1, 1))
        self.reads_deed("1; out 5 push 5, same; out 6 -; out 7 age", maker(1, (5, FIVE), (6, ()), (7, (("age",),))))
        self.reads_deed("2; in 0.0; out 1 push 1", deed(2, [(0, 0)], 1))
        self.reads_deed(
            "2; in 1.0 5; in 1.1 0; in 1.0; out 1 push 1", deed(2, [((1, 0), (5,)), ((1, 1), (0,)), (1, 0)], 1))

    def test_the_bounds_of_numbers(self):
        most = 10 ** 40
        self.reads_deed(f"{BIG}; in {BIG}.{BIG}; out {most} push 1", deed(BIG, [(BIG, BIG)], most))
        self.refuses(
            NoDeed, read_deed, "0; out 1 -", "-1; out 1 -", f"{BIG + 1}; out 1 -", "1; out 0 -", "1; out -1 -",
            f"1; out {most + 1} -", f"1; in {BIG + 1}.0; out 1 -", f"1; in 0.{BIG + 1}; out 1 -",
            "9" * 60 + "; out 1 -", "1; out " + "9" * 60 + " -", "1; in " + "9" * 60 + ".0; out 1 -",
        )
        self.refuses(
            NoText, read_deed, "9" * 61 + "; out 1 -", "1; out " + "9" * 61 + " -", "1; in " + "9" * 61 + ".0; out 1 -",
        )

    def test_how_many_outs(self):
        self.reads_deed("1" + "; out 1 push 1" * 8, maker(1, *[1] * 8))
        self.refuses(NoDeed, read_deed, "1", "1; in 2.0", "1; in 2.0 5; in 3.0", "1" + "; out 1 -" * 9)

    def test_how_many_ins(self):
        self.reads_deed("1" + "; in 2.0" * 8 + "; out 1 push 1", deed(1, [(2, 0)] * 8, 1))
        self.refuses(NoDeed, read_deed, "1" + "; in 2.0" * 9 + "; out 1 -")

    def test_how_many_keys(self):
        self.reads_deed("1; in 2.0" + " 3" * 10 + "; out 1 push 1", deed(1, [((2, 0), (3,) * 10)], 1))
        self.refuses(NoDeed, read_deed, "1; in 2.0" + " 3" * 11 + "; out 1 -", "1; in 2.0" + " 3" * 40 + "; out 1 -")

    def test_the_bounds_of_keys(self):
        most = 10 ** 50 - 1
        self.reads_deed(f"1; in 2.0 {most} {-most}; out 1 push 1", deed(1, [((2, 0), (most, -most))], 1))
        self.refuses(
            NoDeed, read_deed, f"1; in 2.0 {most + 1}; out 1 -", f"1; in 2.0 {-most - 1}; out 1 -",
            f"1; in 2.0 1 {most + 1}; out 1 -", "1; in 2.0 " + "9" * 60 + "; out 1 -",
        )
        self.refuses(NoText, read_deed, "1; in 2.0 " + "9" * 61 + "; out 1 -")

    def test_locks_that_are_none(self):
        for lock in ("div", "push", "push 1 2", "copy 10", "if", "end", ", ".join(["add"] * 31), f"push {10 ** 50}"):
            self.refuses(
                NoDeed, read_deed, f"1; out 1 {lock}", f"1; out 1 -; out 1 {lock}", f"1; in 2.0; out 1 {lock}; out 1 -")

    def test_not_of_the_form(self):
        self.refuses(
            NoText, read_deed, "", " ", "-", "; ", ";", "1;", "1; ", "1 ;", " 1", "1 ", "1; out 1 -;", "1; out 1 -; ",
            "; out 1 -", "out 1 -", "in 2.0; out 1 -", "1;out 1 -", "1;  out 1 -", "1 ; out 1 -", "1, out 1 -",
            "1; ; out 1 -", "1; 2; out 1 -", "1; out", "1; out ", "1; out 1", "1; out 1 ", "1; out -", "1; out  1 -",
            "1; out 1  -", "1; out 1 - ", "1; out 1 --", "1; out 1 5", "1; out push 1", "1; out a -", "1; Out 1 -",
            "1; outs 1 -", "1; ou 1 -", "1; in; out 1 -", "1; in ; out 1 -", "1; in 2; out 1 -", "1; in 2.; out 1 -",
            "1; in -2.0; out 1 -", "1; in 2.-1; out 1 -", "1; in 2.0 ; out 1 -", "1; in  2.0; out 1 -",
            "1; in 2.0  5; out 1 -", "1; in 2.0 5 ; out 1 -", "1; in 2.0 -; out 1 -", "1; in 2.0 5.0; out 1 -",
            "1; in 2.0 05; out 1 -", "1; in 2.0, 5; out 1 -", "1; in 2.0 5, 6; out 1 -", "1; In 2.0; out 1 -",
            "1; ins 2.0; out 1 -", "1; in 2.0.0; out 1 -", "1; in 2 0; out 1 -", "01; out 1 -", "+1; out 1 -",
            "-0; out 1 -", "1; out 01 -", "1; out +1 -", "1; out -0 -", "a; out 1 -", "1\n; out 1 -", "1;\nout 1 -",
            "1; out 1 -\n", "1; out\n1 -", "1; in\t2.0; out 1 -", "1; out 1 - | 2; out 1 -", ONE_WIDE + "; out 1 -",
            "1; in2.0; out 1 -", "1; out1 -", "1; in 2.0 out 1 -", "1; out 1 -, -", "1; out 1 Push 1", "1.0; out 1 -",
        )

    def test_ins_behind_outs(self):
        self.refuses(
            NoText, read_deed, "1; out 1 -; in 2.0", "1; in 2.0; out 1 -; in 3.0", "1; out 1 -; in 2.0; out 1 -",
            "1; out 1 -; out 1 -; in 2.0 5",
        )

    def test_each_number_is_written_so(self):
        for text in NO_NUMBERS:
            self.refuses(
                NoText, read_deed, f"{text}; out 1 -", f"1; out {text} -", f"1; in 2.0 {text}; out 1 -",
                f"1; in 2.0 5 {text}; out 1 -", f"1; out 1 push {text}",
            )
            if "." not in text:
                self.refuses(NoText, read_deed, f"1; in {text}.0; out 1 -", f"1; in 0.{text}; out 1 -")

    def test_no_text_ahead_of_no_deed(self):
        bad = ("out 0 -", "out 1 div", "out 1 push", f"out 1 push {10 ** 50}", "out 1 if")
        wrong = ("out 1", "out 1 Div", "in 2.0", "out 01 -", "", "out 1 push " + "1" * 61)
        for one, two in itertools.product(bad, wrong):
            self.refuses(NoText, read_deed, f"1; {one}; {two}", f"0; {one}; {two}")
            if two != "in 2.0":
                self.refuses(NoText, read_deed, f"1; {two}; {one}", f"0; {two}", f"1; in 2.0 {10 ** 50}; {two}")
        self.refuses(
            NoText, read_deed, "01; out 0 -", "0; out 1", "0; in 2", "1; in 2; in 2.0 " + "9" * 60,
            f"1; in {BIG + 1}.0; in 2", "1" + "; in 2.0" * 9 + "; in", "1" + "; out 1 -" * 9 + "; out", "0; ",
        )


class BlockTest(ReadingCase):
    GOOD = " | 7; out 1 -"

    def reads_block(self, text, thing):
        self.reads(read_block, shown_block, text, thing)

    def test_blocks(self):
        self.reads_block("9 on 4 weight 3 | 7; out 1 -", (9, 4, 3, (maker(7, (1, ())),)))
        self.reads_block("1 on 0 weight 1 | 7; out 50 push 1 | 8; in 7.0 5; out 20 push 5, same; out 10 -", (
            1, 0, 1, (maker(7, 50), deed(8, [((7, 0), (5,))], (20, FIVE), (10, ()))),
        ))

    def test_the_bounds_of_numbers(self):
        self.reads_block(f"{BIG} on {BIG} weight {BIG}{self.GOOD}", (BIG, BIG, BIG, (maker(7, (1, ())),)))
        self.reads_block(f"1 on 0 weight 1{self.GOOD}", (1, 0, 1, (maker(7, (1, ())),)))
        for place in (
            "0 on 4 weight 3", "-1 on 4 weight 3", f"{BIG + 1} on 4 weight 3", "9 on -1 weight 3",
            f"9 on {BIG + 1} weight 3", "9 on 4 weight 0", "9 on 4 weight -1", f"9 on 4 weight {BIG + 1}",
            "9" * 60 + " on 4 weight 3", "9 on 4 weight " + "9" * 60,
        ):
            self.refuses(NoBlock, read_block, place + self.GOOD)
        for place in (
            "9" * 61 + " on 4 weight 3", "9 on " + "9" * 61 + " weight 3", "9 on 4 weight " + "9" * 61,
        ):
            self.refuses(NoText, read_block, place + self.GOOD)

    def test_how_many_deeds(self):
        more = "".join([f" | {number}; in 7.0; out 1 -" for number in range(8, 19)])
        others = [deed(number, [(7, 0)], (1, ())) for number in range(8, 19)]
        self.reads_block(f"9 on 4 weight 3{self.GOOD}{more}", (9, 4, 3, (maker(7, (1, ())),) + tuple(others)))
        self.refuses(NoBlock, read_block, "9 on 4 weight 3", f"9 on 4 weight 3{self.GOOD}{more} | 20; in 7.0; out 1 -")

    def test_makers(self):
        self.refuses(
            NoBlock, read_block, "9 on 4 weight 3 | 8; in 7.0; out 1 -", f"9 on 4 weight 3{self.GOOD} | 8; out 1 -",
            f"9 on 4 weight 3 | 8; in 7.0; out 1 -{self.GOOD}",
        )

    def test_deeds_that_are_none(self):
        for text in (
            "8", "8; in 7.0", "0; in 7.0; out 1 -", "8; in 7.0; out 0 -", "8; in 7.0; out 1 div", "8; in 7.0; out 1 if",
            "8; in 7.0" + " 3" * 11 + "; out 1 -", f"8; in 7.0 {10 ** 50}; out 1 -", f"8; in {BIG + 1}.0; out 1 -",
            "8" + "; in 7.0" * 9 + "; out 1 -", "8; in 7.0" + "; out 1 -" * 9,
            "8; in 7.0; out 1 " + "add, " * 30 + "add",
        ):
            self.refuses(NoBlock, read_block, f"9 on 4 weight 3{self.GOOD} | {text}")
        for text in ("7", "0; out 1 -", "7; out 1 if"):
            self.refuses(NoBlock, read_block, f"9 on 4 weight 3 | {text}")

    def test_not_of_the_form(self):
        for place in (
            "", " ", "9", "9 on 4", "9 on 4 weight", "9 on 4 weight ", "on 4 weight 3", "9 4 3", "9 on 4 weight 3 ",
            " 9 on 4 weight 3", "9  on 4 weight 3", "9 on  4 weight 3", "9 on 4  weight 3", "9 on 4 weight  3",
            "9 on 4 weight 3 5", "9 On 4 weight 3", "9 on 4 Weight 3", "9 at 4 weight 3", "9 on 4 worth 3",
            "9 weight 3 on 4", "9 on 4, weight 3", "9 on 4 weight 3;", "09 on 4 weight 3", "9 on 04 weight 3",
            "9 on 4 weight 03", "9 on -0 weight 3", "+9 on 4 weight 3", "9 on 4 weight 3\n", "\n9 on 4 weight 3",
            "9 on\n4 weight 3", "9\ton 4 weight 3", "a on 4 weight 3", "9 on a weight 3", "9 on 4 weight a",
            "9 on 4.0 weight 3", ONE_WIDE + " on 4 weight 3", "9 on on weight 3", "weight on 4 weight 3",
        ):
            self.refuses(NoText, read_block, place, place + self.GOOD)
        for behind in (
            " ", " |", " | ", "|", "| 7; out 1 -", " |7; out 1 -", "  | 7; out 1 -", " |  7; out 1 -", " | 7; out 1 - ",
            " | 7; out 1 - |", " | 7; out 1 - | ", " | | 7; out 1 -", " |  | 7; out 1 -", " || 7; out 1 -",
            "; 7; out 1 -", ", 7; out 1 -", " | 7; out 1", " | 7;out 1 -", " | out 1 -", " | 7; out 1 -; in 3.0",
            " | 7; out 1 -\n", "\n| 7; out 1 -", " |\n7; out 1 -", " | 7; out 1 -| 8; in 7.0; out 1 -",
            " | 7; out 1 - |8; in 7.0; out 1 -", " | 7; out 1 - | 9 on 4 weight 3",
        ):
            self.refuses(NoText, read_block, "9 on 4 weight 3" + behind)

    def test_each_number_is_written_so(self):
        for text in NO_NUMBERS:
            self.refuses(
                NoText, read_block, f"{text} on 4 weight 3{self.GOOD}", f"9 on {text} weight 3{self.GOOD}",
                f"9 on 4 weight {text}{self.GOOD}",
            )

    def test_no_text_ahead_of_no_block(self):
        bad = ("8", "0; out 1 -", "8; out 1 div", "8; out 1 push", "8; out 0 -", "8; in 7.0 " + "9" * 60 + "; out 1 -")
        wrong = ("", "08", "8; out 1", "8; out 1 Div", "8; out 1 -; in 7.0", "8; in 7; out 1 -", "8; out 1 push 01")
        for one, two in itertools.product(bad, wrong):
            self.refuses(
                NoText, read_block, f"9 on 4 weight 3 | {one} | {two}", f"9 on 4 weight 3 | {two} | {one}",
                f"0 on 4 weight 3 | {two}", f"9 on 4 weight 03 | {one}",
            )
        self.refuses(NoText, read_block, "0 on 04 weight 3", "09 on 4 weight 0")
        self.refuses(NoText, read_block, "9 on 4 weight 3" + self.GOOD * 13 + " | ")


if __name__ == "__main__":
    unittest.main()
