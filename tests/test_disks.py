import random
import unittest

from oncecoin.disks import Disk
from oncecoin.errors import BadBook, ShopError, Torn
from tests.helper import kinds

MANY = "999999999"

# Strings that are no book, whatever a head may look like at first sight.
NO_BOOKS = ("", "\n", " \n", "0", "0 ", "0 a", "0\n", "7\n", "a\n", " 0 a\n", "00 a\n", "01 a\n", "007 a\n", "0a b\n",
            "-1 a\n", "+1 a\n", "1_0 a\n", "1.0 a\n", "1000000000 a\n", "0000000001 a\n", "1\ta\n", "\n0 a\n", "a 0\n",
            "\u0661 a\n", "\u00b2 a\n", "1\r a\n", "N a\n", "12", "12 abc\r", "x\n0 a\n", "1\u00a0a\n")

# Places that are books, with their numbers, heads, records and torn ends.
BOOKS = (
    ("0 \n", 0, "", (), ""), ("0 a\n", 0, "a", (), ""), ("0  \n", 0, " ", (), ""), ("0 0 1\n", 0, "0 1", (), ""),
    ("7 (1,2)\n", 7, "(1,2)", (), ""), ("10 a\nb\n", 10, "a", ("b",), ""), ("1 \n\n", 1, "", ("",), ""),
    ("1 a\n\n\nb\n", 1, "a", ("", "", "b"), ""), ("1 a\nb", 1, "a", (), "b"), ("1 a\nb\nc d", 1, "a", ("b",), "c d"),
    ("100000000 a\n 2 c\n", 100000000, "a", (" 2 c",), ""), (MANY + " a\n", 999999999, "a", (), ""),
    ("3 a\r\n\u2028b\x0b\n", 3, "a\r", ("\u2028b\x0b",), ""),
)


def told(disk):
    """All that a disk says of itself."""
    return kinds((disk.places(), disk.book, disk.head(), disk.records(), len(disk)))


class DiskTest(unittest.TestCase):

    def reads(self, disk, places, book, head, records):
        self.assertEqual(told(disk), kinds((places, book, head, records, len(records))))

    def raises_torn(self, disk, text, **cut):
        before = told(disk)
        with self.assertRaises(Torn) as caught:
            disk.write(text, **cut)
        self.assertEqual(kinds(caught.exception.text), kinds(text))
        self.assertEqual(told(disk), before)


class PlaceTest(DiskTest):

    def test_a_new_disk(self):
        self.reads(Disk("(1,2)"), ("0 (1,2)\n", ""), 0, "(1,2)", ())
        self.reads(Disk(""), ("0 \n", ""), 0, "", ())
        self.reads(Disk("a b  c"), ("0 a b  c\n", ""), 0, "a b  c", ())

    def test_books(self):
        for place, book, head, records, _ in BOOKS:
            for other in NO_BOOKS:
                self.reads(Disk.of_places((place, other)), (place, other), book, head, records)
                self.reads(Disk.of_places((other, place)), (other, place), book, head, records)

    def test_neither_place_is_a_book(self):
        for first in NO_BOOKS:
            for second in NO_BOOKS:
                for places in ((first, second), [first, second]):
                    with self.assertRaises(BadBook) as caught:
                        Disk.of_places(places)
                    self.assertEqual(kinds(caught.exception.texts), kinds((first, second)))
                    self.assertIsInstance(caught.exception, ShopError)

    def test_the_greater_number_is_present(self):
        for low, high in (("0", "1"), ("9", "10"), ("2", "11"), ("99", "100"), ("899999999", "900000000")):
            elder, newer = low + " zz\nx\ny\n", high + " a\n"
            self.reads(Disk.of_places((elder, newer)), (elder, newer), int(high), "a", ())
            self.reads(Disk.of_places((newer, elder)), (newer, elder), int(high), "a", ())

    def test_the_first_place_is_present_if_both_are_alike(self):
        for number in ("0", "5", "900000000"):
            places = (number + " a\nb\n", number + " c\nd\ne\n")
            self.reads(Disk.of_places(places), places, int(number), "a", ("b",))
            self.reads(Disk.of_places(places[::-1]), places[::-1], int(number), "c", ("d", "e"))

    def test_later_changes_to_places_have_no_effect(self):
        places = ["0 a\n", "1 b\n"]
        disk = Disk.of_places(places)
        places[1] = ""
        self.reads(disk, ("0 a\n", "1 b\n"), 1, "b", ())
        disk.write("c")
        self.assertEqual(places, ["0 a\n", ""])

    def test_the_book_cannot_be_set(self):
        with self.assertRaises(AttributeError):
            Disk("a").book = 3

    def test_a_disk_that_comes_from_places_goes_on_like_the_first_one(self):
        disk = Disk("a")
        disk.write("b")
        disk.close("c")
        disk.write("d", cut=1)
        again = Disk.of_places(disk.places())
        self.assertEqual(told(again), told(disk))
        for one in (disk, again):
            one.mend()
            one.write("e")
            one.close("f", cut=2)
        self.assertEqual(told(again), told(disk))


class WriteTest(DiskTest):

    def test_lines_stand_behind_one_another(self):
        disk = Disk("a")
        for text in ("b", "", "c d", "", "0 e"):
            self.assertIs(disk.write(text), True)
        self.reads(disk, ("0 a\nb\n\nc d\n\n0 e\n", ""), 0, "a", ("b", "", "c d", "", "0 e"))

    def test_the_present_book_is_written_to(self):
        for places, written in ((("1 a\n", "2 b\n"), ("1 a\n", "2 b\nc\n")), (("3 a\n", "2 b\n"), ("3 a\nc\n", "2 b\n")),
                                (("2 a\n", "2 b\n"), ("2 a\nc\n", "2 b\n")), (("torn", "0 b\n"), ("torn", "0 b\nc\n"))):
            disk = Disk.of_places(places)
            self.assertIs(disk.write("c"), True)
            self.assertEqual(disk.places(), written)

    def test_cuts_at_every_sign(self):
        for text in ("", "x", "(letter,d1)"):
            for cut in range(len(text) + 4):
                disk = Disk("a")
                disk.write("b")
                whole = disk.write(text, cut=cut)
                self.assertIs(whole, cut > len(text))
                self.assertEqual(disk.places(), ("0 a\nb\n" + (text + "\n")[:cut], ""))
                self.assertEqual(disk.records(), ("b", text) if whole else ("b",))
                self.assertEqual((disk.book, disk.head(), len(disk)), (0, "a", 2 if whole else 1))

    def test_no_cut(self):
        disk = Disk("a")
        self.assertIs(disk.write("b", cut=None), True)
        self.assertEqual(disk.places(), ("0 a\nb\n", ""))

    def test_torn(self):
        for cut in (1, 2, 3):
            disk = Disk("a")
            self.assertIs(disk.write("bcd", cut=cut), False)
            for text in ("e", "", "bcd"):
                self.raises_torn(disk, text)
                self.raises_torn(disk, text, cut=0)
                self.raises_torn(disk, text, cut=9)
            self.assertIs(disk.mend(), True)
            self.assertIs(disk.write("e"), True)
            self.assertEqual(disk.places(), ("0 a\ne\n", ""))

    def test_a_cut_ahead_of_the_first_sign_tears_nothing(self):
        disk = Disk("a")
        self.assertIs(disk.write("b", cut=0), False)
        self.assertIs(disk.write("", cut=0), False)
        self.reads(disk, ("0 a\n", ""), 0, "a", ())
        self.assertIs(disk.write("c"), True)

    def test_a_torn_end_of_the_other_place_is_of_no_account(self):
        disk = Disk.of_places(("1 a\nb", "2 c\n"))
        self.assertIs(disk.write("d"), True)
        self.reads(disk, ("1 a\nb", "2 c\nd\n"), 2, "c", ("d",))

    def test_the_cut_is_passed_by_its_name_alone(self):
        with self.assertRaises(TypeError):
            Disk("a").write("b", 1)
        with self.assertRaises(TypeError):
            Disk("a").close("b", 1)


class MendTest(DiskTest):

    def test_mend(self):
        for place, book, head, records, torn in BOOKS:
            disk = Disk.of_places(("", place))
            self.assertIs(disk.mend(), torn != "")
            self.reads(disk, ("", place[:len(place) - len(torn)]), book, head, records)
            self.assertIs(disk.mend(), False)
            self.reads(disk, ("", place[:len(place) - len(torn)]), book, head, records)

    def test_the_other_place_stays(self):
        disk = Disk.of_places(("1 a\nb", "2 c\nd"))
        self.assertIs(disk.mend(), True)
        self.assertEqual(disk.places(), ("1 a\nb", "2 c\n"))


class CloseTest(DiskTest):

    def test_books_follow_one_another(self):
        disk = Disk("a")
        disk.write("b")
        self.assertIs(disk.close("c"), True)
        self.reads(disk, ("0 a\nb\n", "1 c\n"), 1, "c", ())
        disk.write("d")
        self.assertIs(disk.close("e f"), True)
        self.reads(disk, ("2 e f\n", "1 c\nd\n"), 2, "e f", ())
        self.assertIs(disk.close(""), True)
        self.reads(disk, ("2 e f\n", "3 \n"), 3, "", ())

    def test_cuts_at_every_sign(self):
        for number, text in (("0", ""), ("0", "x"), ("9", "(a,b)"), ("99", "1 2"), ("899999999", "a")):
            for torn in ("", "c", "c d"):
                line = f"{int(number) + 1} {text}\n"
                for cut in range(len(line) + 3):
                    for turned in (False, True):
                        self.check_cut(f"{number} a\nb\n" + torn, line, text, cut, turned)

    def check_cut(self, elder, line, text, cut, turned):
        disk = Disk.of_places((("junk\n", elder) if turned else (elder, "junk\n")))
        before = (disk.book, disk.head(), disk.records())
        whole = disk.close(text, cut=cut)
        self.assertIs(whole, cut >= len(line))
        newer = line[:cut]
        self.assertEqual(disk.places(), (newer, elder) if turned else (elder, newer))
        after = (disk.book, disk.head(), disk.records())
        self.assertEqual(after, (before[0] + 1, text, ()) if whole else before)
        self.assertEqual(told(Disk.of_places(disk.places())), told(disk))

    def test_a_torn_end_is_not_looked_at(self):
        disk = Disk("a")
        disk.write("bcd", cut=2)
        self.assertIs(disk.close("e"), True)
        self.reads(disk, ("0 a\nbc", "1 e\n"), 1, "e", ())
        self.assertIs(disk.mend(), False)
        self.assertIs(disk.write("f"), True)

    def test_a_torn_end_stays_after_a_cut_close(self):
        disk = Disk("a")
        disk.write("bcd", cut=2)
        self.assertIs(disk.close("e", cut=3), False)
        self.reads(disk, ("0 a\nbc", "1 e"), 0, "a", ())
        self.raises_torn(disk, "f")
        self.assertIs(disk.mend(), True)
        self.assertEqual(disk.places(), ("0 a\n", "1 e"))

    def test_both_places_alike(self):
        disk = Disk.of_places(("4 a\n", "4 b\nc\n"))
        self.assertIs(disk.close("d", cut=1), False)
        self.reads(disk, ("4 a\n", "5"), 4, "a", ())
        disk = Disk.of_places(("4 a\n", "4 b\nc\n"))
        self.assertIs(disk.close("d"), True)
        self.reads(disk, ("4 a\n", "5 d\n"), 5, "d", ())

    def test_the_greatest_number_that_is_passed(self):
        disk = Disk.of_places(("900000000 a\n", ""))
        self.assertIs(disk.close("b"), True)
        self.reads(disk, ("900000000 a\n", "900000001 b\n"), 900000001, "b", ())

    def test_a_close_after_a_cut_one(self):
        disk = Disk("a")
        self.assertIs(disk.close("bcd", cut=4), False)
        self.assertEqual(disk.places(), ("0 a\n", "1 bc"))
        self.assertIs(disk.close("x"), True)
        self.reads(disk, ("0 a\n", "1 x\n"), 1, "x", ())


class WalkTest(DiskTest):

    def test_many_writes_and_closes(self):
        for seed in range(200):
            draw, disk = random.Random(seed), Disk("")
            book, head, records, torn = 0, "", [], False
            for _ in range(40):
                text = "".join([draw.choice("ab 01()") for _ in range(draw.randrange(6))])
                cut = draw.choice((None, None, draw.randrange(10)))
                kind = draw.randrange(4)
                if kind == 0:
                    whole = cut is None or cut > len(f"{book + 1} {text}")
                    self.assertIs(disk.close(text, cut=cut), whole)
                    if whole:
                        book, head, records, torn = book + 1, text, [], False
                elif kind == 1:
                    self.assertIs(disk.mend(), torn)
                    torn = False
                elif torn:
                    self.raises_torn(disk, text, cut=cut)
                else:
                    whole = cut is None or cut > len(text)
                    self.assertIs(disk.write(text, cut=cut), whole)
                    records, torn = records + [text] * whole, not whole and cut > 0
                self.reads(disk, disk.places(), book, head, tuple(records))
                if draw.random() < 0.2:
                    disk = Disk.of_places(disk.places())


if __name__ == "__main__":
    unittest.main()
