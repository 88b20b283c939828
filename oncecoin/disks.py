"""A disk: two places, of which one holds the present book."""

from oncecoin.basics import FIGURES, is_made_of
from oncecoin.errors import BadBook, Torn

MOST_FIGURES = 9
NO_BOOK = -1


def _is_head_number(text):
    return is_made_of(text, FIGURES, MOST_FIGURES) and (text == "0" or text[0] != "0")


def _number_of(place):
    """The number of the book in this place; NO_BOOK if there is none."""
    line, feed, _ = place.partition("\n")
    number, blank, _ = line.partition(" ")
    if feed == "" or blank == "" or not _is_head_number(number):
        return NO_BOOK
    return int(number)


class Disk:
    """Two places. The elder book stays until the next one is whole: it is overwritten one book later."""

    def __init__(self, text):
        self._places = [f"0 {text}\n", ""]

    def __len__(self):
        return len(self.records())

    @classmethod
    def of_places(cls, places):
        """The disk with these two strings."""
        texts = tuple(places)
        if all([_number_of(text) == NO_BOOK for text in texts]):
            raise BadBook(texts)
        disk = cls("")
        disk._places = list(texts)
        return disk

    @property
    def book(self):
        """The number of the present book."""
        return _number_of(self._present())

    def places(self):
        return tuple(self._places)

    def write(self, text, *, cut=None):
        """Writes a line behind the present book; returns whether all its signs reached the disk."""
        before = self._present()
        if not before.endswith("\n"):
            raise Torn(text)
        return self._put(self._present_at(), before, text + "\n", cut)

    def close(self, text, *, cut=None):
        """Begins a new book with this text in the other place; returns whether all of its head reached the disk."""
        number = self.book + 1
        return self._put(1 - self._present_at(), "", f"{number} {text}\n", cut)

    def mend(self):
        """Cuts off the torn end of the present book; returns whether there was one."""
        lines, feed, torn = self._present().rpartition("\n")
        self._places[self._present_at()] = lines + feed
        return torn != ""

    def head(self):
        """The text of the head of the present book."""
        return self._present().partition("\n")[0].partition(" ")[2]

    def records(self):
        """The texts of the other lines of the present book."""
        return tuple(self._present().split("\n")[1:-1])

    def _present_at(self):
        first, second = [_number_of(place) for place in self._places]
        return 1 if second > first else 0

    def _present(self):
        return self._places[self._present_at()]

    def _put(self, at, before, line, cut):
        """Leaves in a place what stood there before and the line, or only its first cut signs."""
        reached = line if cut is None else line[:cut]
        self._places[at] = before + reached
        return reached == line
