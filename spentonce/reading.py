"""How texts of numbers, coins, locks, deeds and blocks are read."""

from spentonce.blocks import checked_block
from spentonce.deeds import checked
from spentonce.errors import NoLock, NoText
from spentonce.locks import is_lock
from spentonce.showing import EMPTY_LOCK

MOST_FIGURES = 60
# Written out: Python counts signs of other scripts among its digits and small letters.
FIGURES = "0123456789"
SMALL_LETTERS = "abcdefghijklmnopqrstuvwxyz"


def read_number(text):
    if not is_number(checked_text(text)):
        raise NoText("a number is written by 1 to 60 figures, perhaps with a - ahead")
    return int(text)


def read_coin(text):
    numbers = checked_text(text).split(".")
    if len(numbers) != 2 or not all([is_number(number) and number[0] != "-" for number in numbers]):
        raise NoText("a coin is written by two numbers from 0 on with a point between")
    return tuple([int(number) for number in numbers])


# Each text is formed wholly ahead of any look at what it says, so that NoText goes ahead of all else.


def read_lock(text):
    lock = formed_lock(checked_text(text))
    if not is_lock(lock):
        raise NoLock("the rows of the text make no lock")
    return lock


def read_deed(text):
    return checked(formed_deed(checked_text(text)))


def read_block(text):
    return checked_block(formed_block(checked_text(text)))


def checked_text(thing):
    if not isinstance(thing, str):
        raise NoText("only a text is read")
    return thing


def is_number(text):
    figures = text[1:] if text.startswith("-") else text
    if not 1 <= len(figures) <= MOST_FIGURES or not is_made_of(figures, FIGURES):
        return False
    return figures[0] != "0" or text == "0"


def is_made_of(text, signs):
    return all([sign in signs for sign in text])


# What is formed has the form of a lock, a row, a deed and so on, but need not be one.


def formed_lock(text):
    if text == EMPTY_LOCK:
        return ()
    return tuple([formed_row(row) for row in text.split(", ")])


def formed_row(text):
    words = text.split(" ")
    if words[0] == "" or not is_made_of(words[0], SMALL_LETTERS):
        raise NoText("a row begins with a word of small letters")
    return tuple([words[0]] + [read_number(word) for word in words[1:]])


def formed_deed(text):
    parts = text.split("; ")
    ins = []
    outs = []
    for part in parts[1:]:
        # Behind an out each part is read as one, so that an in there is refused.
        if part.startswith("in ") and not outs:
            ins.append(formed_in(part))
        else:
            outs.append(formed_out(part))
    return (read_number(parts[0]), tuple(ins), tuple(outs))


def formed_in(text):
    words = text.split(" ")
    return (read_coin(words[1]), tuple([read_number(word) for word in words[2:]]))


def formed_out(text):
    words = text.split(" ", 2)
    if len(words) != 3 or words[0] != "out":
        raise NoText("a deed's parts are its number, then ins, then outs, each out with a worth and a lock")
    return (read_number(words[1]), formed_lock(words[2]))


def formed_block(text):
    parts = text.split(" | ")
    words = parts[0].split(" ")
    if len(words) != 5 or words[1] != "on" or words[3] != "weight":
        raise NoText("a block begins with its number, what it is on, and its weight")
    deeds = [formed_deed(part) for part in parts[1:]]
    return (read_number(words[0]), read_number(words[2]), read_number(words[4]), tuple(deeds))
