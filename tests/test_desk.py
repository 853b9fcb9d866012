import unittest

from chances import RULES as CHANCE_RULES
from chances import BookChance
from making import block, maker, outcome
from spentonce.desk import Desk
from spentonce.errors import (
    BadBlock, CoinError, Known, NoAhead, NoBlock, NoDeed, NoFit, NoRow, NoRules, NoSuch, NoText, Other,
)
from strange import NO_TUPLES
from telling import ToldBook, written_block, written_deed

BIG = 10 ** 30
RULES = (50, 10, 0)

# 0 - 1 - 2
#       \ 4 - 10
#   \ 3
PUTS = (
    ("put 1 on 0 weight 1 | 11; out 40 push 1; out 10 push 5, same", "- / 1"),
    ("put 2 on 1 weight 1 | 20; out 50 - | 21; in 11.0; out 30 push 1; out 5 -", "- / 2"),
    ("put 3 on 0 weight 1 | 13; out 7 push 1", "- / -"),
    ("put 4 on 1 weight 1 | 40; out 50 push 1 | 41; in 11.1 5; out 10 push 1", "- / -"),
    ("put 10 on 4 weight 1 | 100; out 1 push 1", "2 / 4 10"),
)
NODES = (0, 1, 2, 3, 4, 10)
NODE_WORDS = ("height", "weight", "total", "branch", "coins")

# Rows with an answer behind these.
ANSWERS = (
    ("head", "10"),
    ("height 0", "0"), ("height 1", "1"), ("height 2", "2"), ("height 10", "3"),
    ("weight 0", "0"), ("weight 2", "2"), ("weight 10", "3"),
    ("total 0", "0"), ("total 1", "50"), ("total 2", "95"), ("total 10", "101"), ("total 3", "7"),
    ("branch 0", "-"), ("branch 1", "1"), ("branch 2", "1 2"), ("branch 10", "1 4 10"), ("branch 3", "3"),
    ("way 0 0", "- / -"), ("way 0 10", "- / 1 4 10"), ("way 10 0", "10 4 1 / -"), ("way 2 10", "2 / 4 10"),
    ("way 10 2", "10 4 / 2"), ("way 3 2", "3 / 1 2"), ("way 4 10", "- / 10"), ("way 10 4", "10 / -"),
    ("way 10 10", "- / -"),
    ("coins 0", "-"), ("coins 1", "11.0:40 11.1:10"), ("coins 2", "11.1:10 20.0:50 21.0:30 21.1:5"),
    ("coins 3", "13.0:7"), ("coins 10", "11.0:40 40.0:50 41.0:10 100.0:1"),
    ("spender 11.0 2", "21"), ("spender 11.1 2", "-"), ("spender 11.0 10", "-"), ("spender 11.1 10", "41"),
    ("spender 11.0 0", "-"), ("spender 99.0 10", "-"), ("spender 0.0 10", "-"), (f"spender {BIG}.{BIG} 10", "-"),
    ("spender " + "9" * 60 + ".0 10", "-"),
    ("waiting", "21"),
    ("where 11", "1"), ("where 21", "2"), ("where 100", "10"),
    ("deed 11", "11; out 40 push 1; out 10 push 5, same"), ("deed 41", "41; in 11.1 5; out 10 push 1"),
    ("deed 20", "20; out 50 -"), ("deed 21", "21; in 11.0; out 30 push 1; out 5 -"),
    ("judge 5 on 10 weight 1 | 51; out 50 -", "good"), ("judge 5 on 10 weight 1 | 51; out 51 -", "0 much"),
    ("judge 5 on 10 weight 1 | 51; out 50 - | 52; in 20.0; out 1 -", "1 gone"),
    ("judge 5 on 2 weight 1 | 51; out 50 - | 52; in 20.0 1; out 1 - | 53; in 20.0 1; out 1 -", "2 gone"),
    ("judge 5 on 2 weight 1 | 51; out 50 - | 52; in 20.0; out 1 -", "1 shut"),
)


def filled(puts=PUTS, rules=RULES):
    desk = Desk(rules)
    for row, answer in puts:
        desk.say(row)
    return desk


def all_of(desk):
    """All that a desk answers."""
    found = [desk.say("head"), desk.say("waiting")]
    for node in NODES + (5, 6):
        for word in NODE_WORDS:
            found.append(outcome(desk.say, f"{word} {node}"))
        for coin in ("11.0", "11.1", "20.0", "99.0"):
            found.append(outcome(desk.say, f"spender {coin} {node}"))
    for number in (11, 20, 21, 40, 41, 13, 100, 30, 31, 51, 52, 99):
        found.append((outcome(desk.say, f"where {number}"), outcome(desk.say, f"deed {number}")))
    return found


class DeskCase(unittest.TestCase):
    def answers(self, desk, row, text):
        with self.subTest(row=row):
            self.assertEqual(desk.say(row), text)

    def refuses(self, refusal, desk, *rows):
        for row in rows:
            with self.subTest(row=row):
                ahead = all_of(desk)
                for turn in range(2):
                    with self.assertRaises(refusal) as taken:
                        desk.say(row)
                    self.assertIsInstance(taken.exception, CoinError)
                    self.assertEqual(all_of(desk), ahead)


class EmptyTest(DeskCase):
    def test_rules(self):
        for rules in NO_TUPLES + [(), (50, 10), (-1, 1, 0), (50, 0, 0), (50, 10, 1001), (50, True, 0), [50, 10, 0]]:
            self.assertIs(outcome(Desk, rules), NoRules)
        for rules in ((0, 1, 0), (10 ** 40, 1000, 1000), RULES):
            self.assertEqual(Desk(rules).say("head"), "0")

    def test_answers(self):
        desk = Desk(RULES)
        for row, text in (
            ("head", "0"), ("height 0", "0"), ("weight 0", "0"), ("total 0", "0"), ("branch 0", "-"), ("coins 0", "-"),
            ("way 0 0", "- / -"), ("spender 1.0 0", "-"), ("waiting", "-"),
        ):
            self.answers(desk, row, text)

    def test_desks_are_apart(self):
        first, second = filled(), Desk(RULES)
        self.assertEqual(second.say("head"), "0")
        self.answers(second, "put 1 on 0 weight 1 | 11; out 1 -", "- / 1")
        self.answers(first, "total 1", "50")

    def test_the_rules_are_those_of_the_book(self):
        desk = Desk((7, 1, 1))
        self.answers(desk, "judge 1 on 0 weight 1 | 11; out 8 -", "0 much")
        self.answers(desk, "judge 1 on 0 weight 1 | 11; out 7 push 1 | 12; in 11.0; out 7 -", "1 green")
        self.answers(desk, "put 1 on 0 weight 1 | 11; out 7 push 1", "- / 1")
        self.answers(desk, "judge 2 on 1 weight 1 | 21; out 4 - | 12; in 11.0; out 7 -", "0 much")
        self.answers(desk, "judge 2 on 1 weight 1 | 21; out 3 - | 12; in 11.0; out 7 -", "good")


class AnswersTest(DeskCase):
    def test_puts(self):
        desk = Desk(RULES)
        for row, text in PUTS:
            self.answers(desk, row, text)

    def test_each_row(self):
        desk = filled()
        for turn in range(2):
            for row, text in ANSWERS:
                self.answers(desk, row, text)

    def test_answers_are_texts(self):
        desk = filled()
        for row, text in ANSWERS:
            self.assertIs(desk.say(row).__class__, str)

    def test_ways(self):
        desk = filled()
        for row, text in (
            ("put 5 on 2 weight 5 | 51; out 1 -", "10 4 / 2 5"), ("put 6 on 5 weight 1 | 61; out 1 -", "- / 6"),
            ("put 7 on 1 weight 1 | 71; out 1 -", "- / -"), ("put 8 on 0 weight 9 | 81; out 1 -", "6 5 2 1 / 8"),
            ("way 8 6", "8 / 1 2 5 6"), ("way 6 8", "6 5 2 1 / 8"),
        ):
            self.answers(desk, row, text)

    def test_coins_in_the_order_of_tuples(self):
        desk = Desk((10 ** 40, 1, 0))
        self.answers(desk, "put 1 on 0 weight 1 | 9; out 7 push 1; out 6 push 1; out 5 push 1", "- / 1")
        row = "put 2 on 1 weight 1 | 100; out 3 - | 10; in 9.1; out 2 -; out 1 - | 8; in 9.0; out 4 -"
        self.answers(desk, row, "- / 2")
        self.answers(desk, "coins 2", "8.0:4 9.2:5 10.0:2 10.1:1 100.0:3")
        self.answers(desk, "coins 1", "9.0:7 9.1:6 9.2:5")

    def test_great_numbers(self):
        desk = Desk((10 ** 40, 1, 0))
        most = 10 ** 40
        self.answers(desk, f"put {BIG} on 0 weight {BIG} | {BIG}; out {most} push 1", f"- / {BIG}")
        self.answers(desk, f"put 1 on {BIG} weight {BIG} | 1; out 1 -", "- / 1")
        self.answers(desk, "weight 1", f"{2 * BIG}")
        self.answers(desk, "total 1", f"{most + 1}")
        self.answers(desk, "coins 1", f"1.0:1 {BIG}.0:{most}")
        self.answers(desk, f"offer 2; in {BIG}.0; out {most} -", "waits")
        self.answers(desk, f"spender {BIG}.0 1", "-")
        self.answers(desk, f"where {BIG}", f"{BIG}")

    def test_offers(self):
        desk = filled()
        self.answers(desk, "offer 31; in 40.0; out 20 push 1; out 30 -", "waits")
        self.answers(desk, "offer 30; in 31.0; out 20 -", "waits")
        self.answers(desk, "waiting", "21 31 30")
        self.answers(desk, "where 31", "-")
        self.answers(desk, "deed 31", "31; in 40.0; out 20 push 1; out 30 -")
        self.answers(desk, "put 5 on 10 weight 1 | 51; out 1 - | 31; in 40.0; out 20 push 1; out 30 -", "- / 5")
        self.answers(desk, "waiting", "21 30")
        self.answers(desk, "where 31", "5")
        self.answers(desk, "put 6 on 2 weight 9 | 61; out 1 -", "5 10 4 / 2 6")
        self.answers(desk, "waiting", "41")
        self.answers(desk, "put 12 on 4 weight 20 | 121; out 1 - | 31; in 40.0; out 20 push 1; out 30 -", "6 2 / 4 12")
        self.answers(desk, "where 31", "5 12")
        self.answers(desk, "waiting", "21 30")

    def test_where_rises(self):
        desk = filled()
        for number in (9, 7, 100, 8):
            desk.say(f"put {number} on 0 weight 1 | 13; out 7 push 1")
        self.answers(desk, "where 13", "3 7 8 9 100")

    def test_nodes_that_are_not_there(self):
        desk = filled()
        for number in ("5", "99", "-1", "-10", f"{BIG}", "9" * 60, "-" + "9" * 60):
            self.refuses(NoSuch, desk, *[f"{word} {number}" for word in NODE_WORDS])
            self.refuses(NoSuch, desk, f"way {number} 0", f"way 0 {number}", f"way {number} {number}")
            self.refuses(NoSuch, desk, f"spender 11.0 {number}", f"spender 99.0 {number}")

    def test_deeds_that_are_not_known(self):
        desk = filled()
        for number in ("1", "0", "99", "-1", "-11", f"{BIG}", "9" * 60, "-" + "9" * 60):
            self.refuses(NoSuch, desk, f"where {number}", f"deed {number}")


class NoRowTest(DeskCase):
    def test_things_that_are_no_text(self):
        desk = filled()
        ahead = all_of(desk)
        for thing in NO_TUPLES + [(), ("head",), ["head"], b"head", 7, (block(5, 10, 1, maker(51, 1)),)]:
            if not isinstance(thing, str):
                self.assertIs(outcome(desk.say, thing), NoRow)
        self.assertEqual(all_of(desk), ahead)

    def test_unknown_words(self):
        self.refuses(
            NoRow, filled(), "", " ", "-", "?", "known", "block 1", "nodes", "heads", "hea", "Head", "HEAD", "Height 1",
            "PUT 5 on 10 weight 1 | 51; out 50 -", "Put ", "puts 5", "pu 5", "1", "1 head", "put5 on 10", "meeting 1 2",
            "ahead 1", "say head", "h\u00e9ad", "\ud800", "where11", "help", "judges ", "offers ",
        )

    def test_texts_without_a_blank_ahead(self):
        self.refuses(NoRow, filled(), "put", "judge", "offer", "put\n", "put\t5", "judge\n5 on 10", "offer;", "put-")

    def test_nothing_behind_the_blank(self):
        self.refuses(NoText, filled(), "put ", "judge ", "offer ")

    def test_another_count_of_words(self):
        self.refuses(
            NoRow, filled(), "head 1", "waiting 1", "waiting 21", "height", "weight", "total", "branch", "coins",
            "where", "deed", "height 1 2", "weight 1 1", "total 1 2", "branch 1 2", "coins 1 2", "where 11 1",
            "deed 11 12", "way", "way 1", "way 1 2 3", "spender", "spender 11.0", "spender 11.0 1 2",
            "spender 11.0 11.1 2",
        )

    def test_a_blank_too_many(self):
        desk = filled()
        for row, text in ANSWERS:
            self.refuses(NoRow, desk, f" {row}")
            if not row.startswith("judge"):
                self.refuses(NoRow, desk, f"{row} ", f"{row}  ")
                if " " in row:
                    self.refuses(NoRow, desk, row.replace(" ", "  ", 1))
        self.refuses(NoRow, desk, "way 0  1", "way 0 1 ", "spender 11.0  1")
        self.refuses(NoRow, desk, " put 5 on 10 weight 1 | 51; out 50 -", " offer 31; in 40.0; out 1 -")

    def test_a_blank_too_many_in_a_text(self):
        self.refuses(
            NoText, filled(), "put  5 on 10 weight 1 | 51; out 50 -", "put 5 on 10 weight 1 | 51; out 50 - ",
            "put 5 on  10 weight 1 | 51; out 50 -", "judge  5 on 10 weight 1 | 51; out 50 -",
            "judge 5 on 10 weight 1 | 51; out 50 - ", "offer  31; in 40.0; out 1 -", "offer 31; in 40.0; out 1 - ",
            "offer 31;  in 40.0; out 1 -",
        )

    def test_line_ends(self):
        desk = filled()
        self.refuses(NoRow, desk, "head\n", "\nhead", "height 1\n", "height\n1", "waiting\r", "coins\t1", "way 0\n1")
        self.refuses(NoText, desk, "put 5 on 10 weight 1 | 51; out 50 -\n", "offer 31; in 40.0; out 1 -\n")

    def test_numbers_that_are_not_written_so(self):
        desk = filled()
        for text in ("01", "00", "-0", "+1", "-", "--1", "a", "1.0", "1,", "1_0", "\u0661", "\uff11", "1" * 61, "-01"):
            self.refuses(NoRow, desk, *[f"{word} {text}" for word in NODE_WORDS])
            self.refuses(NoRow, desk, f"where {text}", f"deed {text}", f"spender 11.0 {text}", f"spender 99.0 {text}")
            self.refuses(NoRow, desk, f"way {text} 1", f"way 1 {text}", f"way 99 {text}", f"way {text} 99")

    def test_coins_that_are_not_written_so(self):
        desk = filled()
        for text in ("11", "11.", ".0", ".", "11.0.0", "-11.0", "11.-1", "11.-0", "011.0", "11.00", "11,0", "a.0",
                     "+1.0", "1" * 61 + ".0", "-", "11:0"):
            self.refuses(NoRow, desk, f"spender {text} 1", f"spender {text} 99", f"spender {text} 01")


class RefusedTest(DeskCase):
    def test_put_and_judge(self):
        desk = filled()
        for refusal, text in (
            (NoText, "5"), (NoText, "5 on 10 weight 1 51; out 50 -"), (NoText, "5 on 10 weight 01 | 51; out 50 -"),
            (NoText, "0 on 10 weight 1 | 51; out 50"), (NoText, "1 on 0 weight 1 | 11; out div 1"),
            (NoBlock, "5 on 10 weight 1"), (NoBlock, "0 on 10 weight 1 | 51; out 50 -"),
            (NoBlock, "1 on 99 weight 0 | 51; out 50 -"), (NoBlock, "5 on 10 weight 1 | 51; out 50 div"),
            (NoBlock, "5 on 10 weight 1 | 51; out 0 -"), (NoBlock, "5 on 10 weight 1 | 51; in 40.0; out 1 -"),
            (Known, "1 on 0 weight 1 | 51; out 50 -"), (Known, "1 on 99 weight 1 | 11; out 51 -"),
            (NoAhead, "5 on 99 weight 1 | 51; out 50 -"), (NoAhead, "5 on 5 weight 1 | 11; out 51 -"),
            (Other, "5 on 10 weight 1 | 11; out 50 -"), (Other, "5 on 10 weight 1 | 20; out 51 -"),
            (Other, "5 on 10 weight 1 | 51; out 50 - | 51; in 40.0; out 1 -"),
        ):
            self.refuses(refusal, desk, f"put {text}", f"judge {text}")

    def test_bad_block(self):
        desk = filled()
        for text, fault in (
            ("5 on 10 weight 1 | 51; out 51 -", "0 much"), ("5 on 10 weight 1 | 40; out 50 push 1", "0 known"),
            ("5 on 10 weight 1 | 51; out 1 - | 52; in 11.1 5; out 1 -", "1 gone"),
            ("5 on 2 weight 1 | 51; out 1 - | 52; in 11.1; out 1 -", "1 shut"),
            ("5 on 10 weight 1 | 51; out 1 - | 52; in 40.0; out 51 -", "1 less"),
            ("5 on 10 weight 1 | 51; out 1 - | 52; in 40.0; in 40.0; out 51 -", "1 twice"),
        ):
            self.refuses(BadBlock, desk, f"put {text}")
            self.answers(desk, f"judge {text}", fault)

    def test_judged_it_is_not_put_in(self):
        desk = filled()
        ahead = all_of(desk)
        self.answers(desk, "judge 5 on 10 weight 1 | 51; out 50 - | 52; in 40.0; out 1 -", "good")
        self.assertEqual(all_of(desk), ahead)
        self.answers(desk, "put 5 on 10 weight 1 | 51; out 50 - | 52; in 40.0; out 1 -", "- / 5")

    def test_offer(self):
        desk = filled()
        for refusal, text in (
            (NoText, "-"), (NoText, "31 "), (NoText, "31; in 40; out 1 -"), (NoText, "0; in 40.0; out 1"),
            (NoText, "31; out 1 -; in 40.0"), (NoText, "5 on 10 weight 1 | 51; out 50 -"),
            (NoDeed, "31"), (NoDeed, "31; in 40.0"), (NoDeed, "0; in 40.0; out 1 -"), (NoDeed, "31; in 40.0; out 0 -"),
            (NoDeed, "11; in 40.0; out 1 div"), (NoDeed, "31; in 40.0 " + "9" * 51 + "; out 1 -"),
            (Other, "11; in 40.0; out 1 -"), (Other, "21; in 11.0; out 30 push 1"), (Other, "40; out 51 -"),
            (NoFit, "31; out 1 -"), (NoFit, "11; out 40 push 1; out 10 push 5, same"), (NoFit, "40; out 50 push 1"),
            (NoFit, "21; in 11.0; out 30 push 1; out 5 -"), (NoFit, "41; in 11.1 5; out 10 push 1"),
            (NoFit, "31; in 40.0; in 40.0; out 1 -"), (NoFit, "31; in 99.0; out 1 -"), (NoFit, "31; in 11.0; out 1 -"),
            (NoFit, "31; in 40.0; out 51 -"), (NoFit, "31; in 21.1; out 5 -"),
        ):
            self.refuses(refusal, desk, f"offer {text}")
        self.answers(desk, "offer 31; in 21.1 1; out 5 -", "waits")

    def test_other_for_a_deed_that_was_offered(self):
        desk = filled()
        self.answers(desk, "offer 31; in 40.0; out 50 -", "waits")
        self.refuses(Other, desk, "put 5 on 10 weight 1 | 31; out 50 -", "judge 5 on 10 weight 1 | 31; out 50 -")


def listed(things):
    return " ".join([str(thing) for thing in things]) or "-"


class ToldDesk:
    """The rows and answers of a desk, written from the telling of a book."""

    def __init__(self, rules):
        self.told = ToldBook(rules)

    def put(self, thing):
        answer = self.told.put(thing)
        return f"put {written_block(thing)}", self.way(answer) if isinstance(answer, tuple) else answer

    def judge(self, thing):
        answer = self.told.judged(thing)
        if isinstance(answer, tuple):
            answer = f"{answer[0]} {answer[1]}"
        return f"judge {written_block(thing)}", "good" if answer is None else answer

    def offer(self, thing):
        answer = self.told.offer(thing)
        return f"offer {written_deed(thing)}", "waits" if answer is None else answer

    def way(self, lists):
        return f"{listed(lists[0])} / {listed(lists[1])}"

    def rows(self):
        """The rows that hang on what counts now."""
        return [("head", f"{self.told.head()}"), ("waiting", listed(self.told.waited()[0]))]

    def rows_of(self, node):
        branch, height, weight, coins, total, spenders = self.told.node(node)
        found = [(f"height {node}", f"{height}"), (f"weight {node}", f"{weight}"), (f"total {node}", f"{total}")]
        found.append((f"branch {node}", listed(branch)))
        found.append((f"coins {node}", listed([f"{coin[0]}.{coin[1]}:{coins[coin][0]}" for coin in sorted(coins)])))
        for coin, number in zip(self.told.coins(), spenders):
            found.append((f"spender {coin[0]}.{coin[1]} {node}", "-" if number is None else f"{number}"))
        for other in self.told.nodes():
            found.append((f"way {node} {other}", self.way(self.told.way(node, other))))
        return found

    def rows_of_deeds(self):
        found = []
        for each in self.told.deeds:
            found.append((f"deed {each[0]}", written_deed(each)))
            found.append((f"where {each[0]}", listed(self.told.where(each[0]))))
        return found


class ChanceTest(unittest.TestCase):
    def compare(self, desk, rows):
        for row, answer in rows:
            self.assertEqual(outcome(desk.say, row), answer, row)

    def test_desks_by_chance(self):
        chance = BookChance(9)
        for turn in range(30):
            rules = CHANCE_RULES[turn % 3]
            steps = self.grown(chance, Desk(rules), ToldDesk(rules))
            chance.random.shuffle(steps)
            desk, told = Desk(rules), ToldDesk(rules)
            # Twice over: what came ahead of its time is told once more.
            for word, thing in steps + steps:
                self.step(desk, told, word, thing)
            self.compare_all(desk, told)

    def grown(self, chance, desk, told):
        steps = []
        for count in range(40):
            word = chance.random.choice(("put", "put", "offer", "offer", "judge"))
            steps.append((word, chance.offer(told.told) if word == "offer" else chance.block(told.told)))
            self.step(desk, told, *steps[-1])
        self.compare_all(desk, told)
        return steps

    def step(self, desk, told, word, thing):
        call = {"put": told.put, "judge": told.judge, "offer": told.offer}[word]
        self.compare(desk, [call(thing)] + told.rows())

    def compare_all(self, desk, told):
        for node in told.told.nodes():
            self.compare(desk, told.rows_of(node))
        self.compare(desk, told.rows_of_deeds())


if __name__ == "__main__":
    unittest.main()
