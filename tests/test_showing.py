import unittest

from chances import TextChance
from making import FIVE, OPEN, block, deed, maker, outcome
from spentonce.blocks import is_block
from spentonce.deeds import is_deed
from spentonce.errors import NoBlock, NoDeed, NoLock, NoText
from spentonce.locks import LONE_WORDS, is_lock
from spentonce.reading import read_block, read_coin, read_deed, read_lock, read_number
from spentonce.showing import shown_block, shown_deed, shown_lock
from telling import (
    BLOCK, COIN, DEED, LOCK, NUMBER, has_form, said_block, said_deed, said_lock, written_block, written_deed,
    written_lock,
)

BIG = 10 ** 30


class ShownCase(unittest.TestCase):
    def shows(self, shower, reader, thing, text):
        self.assertEqual(shower(thing), text)
        self.assertEqual(reader(text), thing)


class LockTest(ShownCase):
    def test_locks(self):
        for lock, text in (
            ((), "-"), (OPEN, "push 1"), (FIVE, "push 5, same"), ((("push", -5),), "push -5"),
            ((("push", 0),), "push 0"),
            ((("copy", 0), ("paid", 9)), "copy 0, paid 9"), ((("if",), ("else",), ("end",)), "if, else, end"),
            ((("push", 10 ** 50 - 1),), "push " + "9" * 50), ((("push", 1 - 10 ** 50),), "push -" + "9" * 50),
            ((("add",),) * 30, ", ".join(["add"] * 30)),
        ):
            self.shows(shown_lock, read_lock, lock, text)

    def test_each_word(self):
        for word in LONE_WORDS:
            self.assertEqual(shown_lock(((word,),)), word)
            self.assertEqual(shown_lock((("push", 1), (word,))), f"push 1, {word}")

    def test_somewhat_beyond_the_bounds(self):
        self.assertEqual(shown_lock((("push", 10 ** 60),)), f"push {10 ** 60}")
        self.assertEqual(shown_lock((("copy", 10),) * 31), ", ".join(["copy 10"] * 31))
        self.assertEqual(shown_lock((("if",),)), "if")


class DeedTest(ShownCase):
    def test_deeds(self):
        for thing, text in (
            ((7, (((3, 0), (5, -2)), ((4, 1), ())), ((50, (("push", 1),)), (20, ()))),
             "7; in 3.0 5 -2; in 4.1; out 50 push 1; out 20 -"),
            (maker(1, (1, ())), "1; out 1 -"),
            (maker(1, (5, FIVE), 6), "1; out 5 push 5, same; out 6 push 1"),
            (deed(BIG, [((BIG, BIG), (0,))], 10 ** 40), f"{BIG}; in {BIG}.{BIG} 0; out {10 ** 40} push 1"),
        ):
            self.shows(shown_deed, read_deed, thing, text)

    def test_somewhat_beyond_the_bounds(self):
        self.assertEqual(shown_deed((0, (), ())), "0")
        self.assertEqual(shown_deed(deed(7, [(3, 0)])), "7; in 3.0")
        self.assertEqual(shown_deed(maker(7, *[1] * 9)), "7" + "; out 1 push 1" * 9)


class BlockTest(ShownCase):
    def test_blocks(self):
        for thing, text in (
            (block(9, 4, 3, maker(7, (1, ()))), "9 on 4 weight 3 | 7; out 1 -"),
            (block(BIG, 0, BIG, maker(7, 5), deed(8, [(7, 0)], 5), deed(9, [((8, 0), (1, 2))], (3, ()), (2, FIVE))),
             f"{BIG} on 0 weight {BIG} | 7; out 5 push 1 | 8; in 7.0; out 5 push 1"
             " | 9; in 8.0 1 2; out 3 -; out 2 push 5, same"),
        ):
            self.shows(shown_block, read_block, thing, text)

    def test_somewhat_beyond_the_bounds(self):
        self.assertEqual(shown_block(block(0, 4, 3)), "0 on 4 weight 3")


class ChanceTest(unittest.TestCase):
    """Things by chance, and texts that are like theirs, beside the forms as patterns."""

    KINDS = (
        (shown_lock, written_lock, read_lock, LOCK, said_lock, is_lock, NoLock),
        (shown_deed, written_deed, read_deed, DEED, said_deed, is_deed, NoDeed),
        (shown_block, written_block, read_block, BLOCK, said_block, is_block, NoBlock),
    )

    def test_what_is_shown_reads_as_the_same(self):
        chance = TextChance(3)
        for turn in range(300):
            things = (chance.some_lock(), chance.deed(chance.random.randrange(5)), chance.block())
            for thing, (shown, written, read, *more) in zip(things, self.KINDS):
                self.assertEqual(shown(thing), written(thing))
                self.assertEqual(read(shown(thing)), thing)

    def test_texts_by_chance(self):
        chance, counts = TextChance(5), {}
        for turn in range(2000):
            things = (chance.some_lock(), chance.deed(chance.random.randrange(3)), chance.block())
            for thing, (shown, written, read, pattern, said, is_one, refusal) in zip(things, self.KINDS):
                text = chance.like(written(thing))
                answer = outcome(read, text)
                kind = answer if answer in (NoText, refusal) else read
                counts[kind] = counts.get(kind, 0) + 1
                if not has_form(pattern, text):
                    self.assertIs(answer, NoText, text)
                elif not is_one(said(text)):
                    self.assertIs(answer, refusal, text)
                else:
                    self.assertEqual(answer, said(text))
                    self.assertEqual(shown(answer), text)
        for kind in (NoText, NoLock, NoDeed, NoBlock, read_lock, read_deed, read_block):
            self.assertGreater(counts[kind], 30, kind)

    def test_numbers_and_coins_by_chance(self):
        chance = TextChance(6)
        for turn in range(2000):
            text = chance.like(str(chance.random.choice(chance.NUMBERS)))
            self.assertEqual(outcome(read_number, text), int(text) if has_form(NUMBER, text) else NoText)
            text = chance.like(f"{chance.places()}.{chance.places()}")
            coin = tuple([int(part) for part in text.split(".")]) if has_form(COIN, text) else NoText
            self.assertEqual(outcome(read_coin, text), coin)


if __name__ == "__main__":
    unittest.main()
