"""A book to which deeds are offered, and those of its deeds that wait."""

from spentonce.book import Book
from spentonce.deeds import checked, is_maker
from spentonce.errors import NoFit, NoSuch, Other


class Pool(Book):
    def offer(self, deed):
        checked(deed)
        number = deed[0]
        if self.met.get(number, deed) != deed:
            raise Other("the book knows another deed of this number")
        if is_maker(deed) or number in self.met:
            raise NoFit("a maker is never offered, and a deed that is known not again")
        hoard = self.hoard_of_head()
        self.do_waiting(hoard)
        # Refused with NoFit where it has a fault.
        hoard.do(deed, self.next_height(), self.next_height())
        self.met[number] = deed

    def waiting(self):
        return self.do_waiting(self.hoard_of_head())

    def known(self):
        return list(self.met)

    def deed(self, number):
        if number not in self.met:
            raise NoSuch("there is no such deed")
        return self.met[number]

    def where(self, number):
        found = self.deed(number)
        return [node for node in sorted(self.blocks) if found in self.blocks[node][3]]

    def hoard_of_head(self):
        # A copy: which deeds wait is found anew each time, so that nothing hangs on where the head was ahead.
        return self.hoards[self.head()].copied()

    def next_height(self):
        return self.height(self.head()) + 1

    def do_waiting(self, hoard):
        """Does on the hoard each deed that waits, and tells their numbers."""
        height = self.next_height()
        numbers = []
        for deed in self.met.values():
            if not is_maker(deed) and hoard.fault(deed, height) is None:
                hoard.do(deed, height, height)
                numbers.append(deed[0])
        return numbers
