"""A desk: a book that is told rows of words and answers each with a text."""

from spentonce.errors import NoRow, NoText
from spentonce.reading import read_block, read_coin, read_deed, read_number
from spentonce.showing import shown_coin, shown_deed
from spentonce.waiting import Pool

# Rows of these words have a text behind the first blank; it is read as a whole.
TEXT_WORDS = ("put", "judge", "offer")

# What stands behind the word of each other row.
BEHIND = {
    "head": (), "waiting": (),
    "height": ("number",), "weight": ("number",), "total": ("number",), "branch": ("number",), "coins": ("number",),
    "where": ("number",), "deed": ("number",),
    "way": ("number", "number"), "spender": ("coin", "number"),
}


class Desk:
    def __init__(self, rules):
        self.pool = Pool(rules)

    def say(self, row):
        if not isinstance(row, str):
            raise NoRow("a row is a text")
        parts = row.partition(" ")
        if parts[0] in TEXT_WORDS and parts[1] == " ":
            return self.answer_text(parts[0], parts[2])
        words = row.split(" ")
        return self.answer(words[0], things_behind(words))

    def answer_text(self, word, text):
        if word == "put":
            return shown_way(self.pool.put(read_block(text)))
        if word == "judge":
            fault = self.pool.judge(read_block(text))
            return "good" if fault is None else shown_list(fault)
        self.pool.offer(read_deed(text))
        return "waits"

    def answer(self, word, things):
        if word == "head":
            return str(self.pool.head())
        if word == "waiting":
            return shown_list(self.pool.waiting())
        if word == "way":
            return shown_way(self.pool.way(things[0], things[1]))
        if word == "spender":
            number = self.pool.spender(things[0], things[1])
            return shown_list([] if number is None else [number])
        return self.answer_of(word, things[0])

    def answer_of(self, word, number):
        """The answer to a row with one number behind its word."""
        if word == "height":
            return str(self.pool.height(number))
        if word == "weight":
            return str(self.pool.weight(number))
        if word == "total":
            return str(self.pool.total(number))
        if word == "branch":
            return shown_list(self.pool.branch(number))
        if word == "coins":
            return shown_coins(self.pool.coins(number))
        if word == "where":
            return shown_list(self.pool.where(number))
        return shown_deed(self.pool.deed(number))


def things_behind(words):
    """The numbers and coins behind the first of a row's words."""
    kinds = BEHIND.get(words[0])
    if kinds is None or len(kinds) != len(words) - 1:
        raise NoRow("there is no such row")
    return [read_thing(kind, word) for kind, word in zip(kinds, words[1:])]


def read_thing(kind, word):
    try:
        return read_coin(word) if kind == "coin" else read_number(word)
    except NoText:
        raise NoRow("the row has a number or a coin that isn't written so") from None


def shown_list(things):
    return " ".join([str(thing) for thing in things]) if things else "-"


def shown_way(way):
    return " / ".join([shown_list(numbers) for numbers in way])


def shown_coins(coins):
    return shown_list([":".join([shown_coin(coin), str(coins[coin][0])]) for coin in sorted(coins)])
