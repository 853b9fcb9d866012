"""The words of the document once more, beside the program and in another way: all is found anew for each question."""

import re

from spentonce.errors import BadBlock, Known, NoAhead, NoFit, Other

FACT_WORDS = ("height", "age", "worth", "ins", "outs")


class Shut(Exception):
    pass


class Trial:
    """A lock is split at its ifs, and each part done as a whole."""

    def __init__(self, keys, facts):
        self.facts = dict(zip(FACT_WORDS, facts))
        self.paid = dict(enumerate(facts[5]))
        self.pile = ()
        for key in keys:
            self.lay(key)

    def lay(self, number):
        self.pile = (number,) + self.pile
        if len(str(abs(number))) > 60 or len(self.pile) > 20:
            raise Shut

    def take(self):
        if not self.pile:
            raise Shut
        top, self.pile = self.pile[0], self.pile[1:]
        return top

    def do_all(self, lock):
        while lock:
            if lock[0][0] != "if":
                self.do(*lock[0])
                lock = lock[1:]
                continue
            first, second, lock = split(lock)
            self.do_all(first if self.take() != 0 else second)

    def do(self, word, number=None):
        if word == "push":
            self.lay(number)
        elif word == "copy":
            if len(self.pile) < number + 1:
                raise Shut
            self.lay(self.pile[number])
        elif word == "paid":
            self.lay(self.paid.get(number, 0))
        elif word in self.facts:
            self.lay(self.facts[word])
        elif word == "not":
            self.lay(int(not self.take()))
        elif word == "need":
            if self.take() == 0:
                raise Shut
        elif word == "drop":
            self.take()
        else:
            b, a = self.take(), self.take()
            laid = {"swap": (b, a), "add": (a + b,), "sub": (a - b,), "mul": (a * b,),
                    "less": (int(a < b),), "same": (int(a == b),)}
            for number in laid[word]:
                self.lay(number)


def split(lock):
    """The two parts of the if that the lock begins with, and what is behind its end."""
    depth, middle = 0, None
    for place, (word, *more) in enumerate(lock):
        depth += (word == "if") - (word == "end")
        if depth == 1 and word == "else":
            middle = place
        if depth == 0:
            if middle is None:
                return lock[1:place], (), lock[place + 1:]
            return lock[1:middle], lock[middle + 1:place], lock[place + 1:]


def told_opens(lock, keys, facts):
    try:
        trial = Trial(keys, facts)
        trial.do_all(lock)
        return trial.take() != 0
    except Shut:
        return False


def told_gift(rules, height):
    gift, step, ripe = rules
    for turn in range((height - 1) // step):
        gift = gift // 2
    return gift


def told_worth(each):
    return sum([worth for worth, lock in each[2]])


class Replayed:
    """A branch done from the first block on."""

    def __init__(self, blocks, rules):
        self.coins, self.spenders, self.done, self.made, self.fees, self.gifts = {}, {}, [], 0, 0, 0
        self.fault = None
        for height, thing in enumerate(blocks, start=1):
            fees = self.fees
            for place, each in enumerate(thing[3]):
                word = self.word(each, height)
                if word:
                    self.fault = (place, word)
                    return
                self.do(each, height, rules[2] if place == 0 else 0)
            self.gifts += told_gift(rules, height)
            self.made += told_worth(thing[3][0])
            if told_worth(thing[3][0]) > told_gift(rules, height) + self.fees - fees:
                self.fault = (0, "much")
                return

    def word(self, each, height):
        number, ins, outs = each
        if number in self.done:
            return "known"
        if len({coin for coin, keys in ins}) < len(ins):
            return "twice"
        for coin, keys in ins:
            if coin not in self.coins or coin in self.spenders:
                return "gone"
            worth, lock, made, free = self.coins[coin]
            if height < free:
                return "green"
            paid = tuple([out[0] for out in outs])
            if not told_opens(lock, keys, (height, height - made, worth, len(ins), len(outs), paid)):
                return "shut"
        return "less" if ins and self.fee(each) < 0 else None

    def fee(self, each):
        return sum([self.coins[coin][0] for coin, keys in each[1]]) - told_worth(each) if each[1] else 0

    def do(self, each, height, ripe):
        self.fees += self.fee(each)
        self.done.append(each[0])
        for coin, keys in each[1]:
            self.spenders[coin] = each[0]
        for place, (worth, lock) in enumerate(each[2]):
            self.coins[(each[0], place)] = (worth, lock, height, height + ripe)

    def unspent(self):
        return {coin: kept for coin, kept in self.coins.items() if coin not in self.spenders}


class ToldBook:
    """Which blocks were put in, and which deeds are known, in their order; nothing else is kept."""

    def __init__(self, rules):
        self.rules, self.blocks, self.deeds = rules, {}, []

    def branch(self, number):
        return self.branch(self.blocks[number][1]) + [self.blocks[number]] if number else []

    def weight(self, number):
        return sum([thing[2] for thing in self.branch(number)])

    def head(self):
        return min(self.nodes(), key=lambda number: (-self.weight(number), number))

    def way(self, one, other):
        back = [thing[0] for thing in reversed(self.branch(one))]
        over = [thing[0] for thing in self.branch(other)]
        return [node for node in back if node not in over], [node for node in over if node not in back]

    def at(self, number):
        return Replayed(self.branch(number), self.rules)

    def nodes(self):
        return [0] + list(self.blocks)

    def coins(self):
        """Each coin that some branch makes, and one that none does."""
        return [(each[0], place) for each in self.deeds for place in range(len(each[2]))] + [(10 ** 30, 0)]

    def node(self, number):
        """All that is told of a node."""
        branch, trial = self.branch(number), self.at(number)
        spenders = [trial.spenders.get(coin) for coin in self.coins()]
        numbers = [thing[0] for thing in branch]
        return numbers, len(branch), self.weight(number), trial.unspent(), trial.made - trial.fees, spenders

    def judged(self, thing):
        """The class of the refusal, or the fault, or None."""
        if thing[0] == 0 or thing[0] in self.blocks:
            return Known
        if thing[1] != 0 and thing[1] not in self.blocks:
            return NoAhead
        for place, each in enumerate(thing[3]):
            for other in self.deeds + list(thing[3][:place]):
                if other[0] == each[0] and other != each:
                    return Other
        return Replayed(self.branch(thing[1]) + [thing], self.rules).fault

    def put(self, thing):
        """The class of the refusal, or the way."""
        told = self.judged(thing)
        if told is not None:
            return BadBlock if isinstance(told, tuple) else told
        last = self.head()
        self.blocks[thing[0]] = thing
        for each in thing[3]:
            self.know(each)
        return self.way(last, self.head())

    def know(self, each):
        if each not in self.deeds:
            self.deeds.append(each)

    def waited(self):
        """The numbers of the deeds that wait, and what the head's branch and they come to."""
        numbers, trial = [], self.at(self.head())
        for each in self.deeds:
            if each[1] and trial.word(each, self.next_height()) is None:
                trial.do(each, self.next_height(), 0)
                numbers.append(each[0])
        return numbers, trial

    def next_height(self):
        return len(self.branch(self.head())) + 1

    def offer(self, thing):
        """The class of the refusal, or None."""
        for each in self.deeds:
            if each[0] == thing[0]:
                return NoFit if each == thing else Other
        if not thing[1] or self.waited()[1].word(thing, self.next_height()):
            return NoFit
        self.know(thing)
        return None

    def where(self, number):
        return sorted([thing[0] for thing in self.blocks.values() if number in [each[0] for each in thing[3]]])


def node_of(book, number, coins):
    """The same, as a book of the program tells it."""
    spenders = [book.spender(coin, number) for coin in coins]
    return (
        book.branch(number), book.height(number), book.weight(number), book.coins(number), book.total(number), spenders,
    )


# The forms of texts, as patterns.
NUMBER = "(?:0|-?[1-9][0-9]{0,59})"
COIN = r"(?:0|[1-9][0-9]{0,59})\.(?:0|[1-9][0-9]{0,59})"
ROW = f"[a-z]+(?: {NUMBER})*"
LOCK = f"(?:-|{ROW}(?:, {ROW})*)"
IN = f"in {COIN}(?: {NUMBER})*"
OUT = f"out {NUMBER} {LOCK}"
DEED = f"{NUMBER}(?:; {IN})*(?:; {OUT})*"
PLACE = f"{NUMBER} on {NUMBER} weight {NUMBER}"
BLOCK = rf"{PLACE}(?: \| {DEED})*"


def has_form(pattern, text):
    return re.fullmatch(pattern, text) is not None


# What a text of its form says, whether it is a lock, a deed or a block or not.


def said_lock(text):
    found = re.findall(ROW, text)
    return tuple([(re.match("[a-z]+", row)[0],) + tuple(map(int, re.findall(NUMBER, row))) for row in found])


def said_deed(text):
    ins, outs = [], []
    for part in re.findall(IN, text):
        one, place, *keys = [int(number) for number in re.findall(NUMBER, part)]
        ins.append(((one, place), tuple(keys)))
    for part in re.findall(OUT, text):
        worth, lock = re.fullmatch("out ([^ ]*) (.*)", part).groups()
        outs.append((int(worth), said_lock(lock)))
    return int(re.match(NUMBER, text)[0]), tuple(ins), tuple(outs)


def said_block(text):
    place, *deeds = text.split(" | ")
    number, ahead, weight = [int(part) for part in re.findall(NUMBER, place)]
    return number, ahead, weight, tuple([said_deed(part) for part in deeds])


def written_lock(lock):
    return "-" if lock == () else ", ".join([" ".join(map(str, row)) for row in lock])


def written_deed(each):
    number, ins, outs = each
    text = f"{number}"
    for (one, place), keys in ins:
        text += f"; in {one}.{place}" + "".join([f" {key}" for key in keys])
    for worth, lock in outs:
        text += f"; out {worth} {written_lock(lock)}"
    return text


def written_block(thing):
    number, ahead, weight, deeds = thing
    return f"{number} on {ahead} weight {weight}" + "".join([f" | {written_deed(each)}" for each in deeds])
