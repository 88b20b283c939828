import copy
import itertools
import re
import unittest

from oncecoin.codec import is_plain, read_value, write_value
from oncecoin.errors import InvalidText, InvalidValue
from tests.helper import ODD_VALUES, kinds, nested

PLAIN_TEXTS = (
    (None, "N"),
    (True, "T"),
    (False, "F"),
    (0, "0"),
    (1, "1"),
    (-1, "-1"),
    (10, "10"),
    (-10, "-10"),
    (999999999999, "999999999999"),
    (-999999999999, "-999999999999"),
    (100000000000, "100000000000"),
    ("a", "a"),
    ("z", "z"),
    ("n", "n"),
    ("a0", "a0"),
    ("z9", "z9"),
    ("tea", "tea"),
    ("t2e4a6", "t2e4a6"),
    ("abcdefghijkl", "abcdefghijkl"),
    ("a12345678901", "a12345678901"),
    ((), "()"),
    ((None,), "(N)"),
    (((),), "(())"),
    ((1, 2), "(1,2)"),
    (("a", 1), "(a,1)"),
    (("a1",), "(a1)"),
    ((True, 1, False, 0), "(T,1,F,0)"),
    ((1, (), ("a", None)), "(1,(),(a,N))"),
    (((), (), ((), ())), "((),(),((),()))"),
    ((-5, (-6, ("b", "c"))), "(-5,(-6,(b,c)))"),
    (nested(20), "(" * 20 + ")" * 20),
    ((nested(19), 1, nested(19)), "(" * 20 + ")" * 19 + ",1," + "(" * 19 + ")" * 20),
    (tuple(range(300)), "(" + ",".join(str(k) for k in range(300)) + ")"),
)

NOT_PLAIN = (
    1000000000000, -1000000000000, 10 ** 399, -(10 ** 399),
    "", "A", "N", "0", "1a", "-", "_a", "aB", "a b", "a_", "a-", "a,", "(", "()", "a\n", "\na", "\u00e9", "a\u00e9",
    "a\u00b2", "a\u0663", "\u00aa", "\ud800", "abcdefghijklm", "a123456789012", "a" * 2000,
    [], [1], [()], ([],), (1, [2]), (1, (2, (3, [])), 4), ("",), (1, ("A",)), ((10 ** 12,), 1), (-(10 ** 12),),
    nested(21), nested(30), (1, nested(20)), (nested(3), (nested(19),)),
    nested(30, list),
)

# Each text with the length of its longest beginning that begins the text of a plain value.
FAULTS = (
    # It ends too early.
    ("", 0), ("-", 1), ("(", 1), ("((", 2), ("(1", 2), ("(1,", 3), ("(N", 2), ("(a", 2), ("(-", 2), ("(()", 3),
    ("(1,(2,3)", 8), ("(1,(),(a,N)", 11), ("(" * 20, 20), ("(" * 20 + ")" * 19, 39),
    # The fault is the first sign.
    (" ", 0), (")", 0), (",", 0), ("A", 0), (" tea", 0), ("+1", 0), ("_a", 0), ("None", 1), ("[1]", 0), ("'a'", 0),
    ("\n", 0), ("\u00e9", 0), ("\u0661", 0), ("\u00b2", 0), ("\ud800", 0),
    # Zeros ahead.
    ("007", 1), ("00", 1), ("01", 1), ("0a", 1), ("-0", 1), ("-01", 1), ("--1", 1), ("-a", 1), ("-(", 1), ("-N", 1),
    ("(00)", 2), ("(-0)", 2), ("(1,01)", 4),
    # Empty parts.
    ("(1,)", 3), ("(,)", 1), ("(,1)", 1), ("(1,,2)", 3), ("((),)", 4), ("((),,())", 4), ("((,))", 2),
    # In the middle.
    ("(1 ,2)", 2), ("(1, 2)", 3), ("( 1)", 1), ("(a(b))", 2), ("(1(2))", 2), ("(()())", 3), ("(1a)", 2), ("(aB)", 2),
    ("(N1)", 2), ("(TF)", 2), ("(1,A,2)", 3), ("(1-2)", 2), ("(1,\u00e9)", 3), ("(a\u00e9)", 2), ("(1\u0661)", 2),
    # Behind a whole value.
    ("N ", 1), ("NN", 1), ("Na", 1), ("T1", 1), ("F()", 1), ("1a", 1), ("1,2", 1), ("1)", 1), ("12 ", 2), ("12\n", 2),
    ("a ", 1), ("aB", 1), ("a,b", 1), ("tea()", 3), ("())", 2), ("()()", 2), ("(1),", 3), ("(1)1", 3), ("1.5", 1),
    # One too many.
    ("1234567890123", 12), ("-1234567890123", 13), ("1" * 400, 12), ("(1234567890123)", 13), ("(1,-1234567890123)", 16),
    ("abcdefghijklm", 12), ("a123456789012", 12), ("a" * 2000, 12), ("(abcdefghijklm)", 13),
    ("(" * 21 + ")" * 21, 20), ("(" * 30, 20), ("(" * 20 + "1,(", 22), ("(1," + "(" * 20, 22),
    ("(" * 20 + ")" * 21, 40), ("(" * 20 + ")" + ",((", 23), ("(" * 20 + ")" + ",()", 24),
)

ATOM = re.compile(r"N|T|F|0|-?[1-9][0-9]{0,11}|[a-z][a-z0-9]{0,11}")
FLAT = re.compile(r"\(([^(),]+(?:,[^(),]+)*)?\)")


def is_text(text):
    """Whether text is that of a plain value with few tuples: the innermost ones become atoms, until none is left."""
    if "?" in text:
        return False
    while True:
        found = FLAT.search(text)
        if found is None:
            return text == "?" or ATOM.fullmatch(text) is not None
        parts = found.group(1).split(",") if found.group(1) is not None else []
        if not all(part == "?" or ATOM.fullmatch(part) for part in parts):
            return False
        text = text[:found.start()] + "?" + text[found.end():]


def begins_a_text(text):
    return any(is_text(text + first + ")" * many) for first in ("", "1") for many in range(text.count("(") + 1))


class IsPlainTest(unittest.TestCase):
    """[4]"""

    def test_plain_values(self):
        for value, _ in PLAIN_TEXTS:
            with self.subTest(value=value):
                self.assertIs(is_plain(value), True)

    def test_other_values(self):
        for value in NOT_PLAIN:
            with self.subTest(value=value):
                self.assertIs(is_plain(value), False)

    def test_tuples_up_to_twenty_inside_one_another(self):
        for depth in range(1, 31):
            self.assertIs(is_plain(nested(depth)), depth <= 20)
            self.assertIs(is_plain(nested(depth, list)), False)

    def test_it_may_be_passed_by_name(self):
        self.assertIs(is_plain(value=1), True)

    def test_any_value_is_answered_and_stays_as_it_was(self):
        for value in ODD_VALUES + NOT_PLAIN:
            before = copy.deepcopy(value)
            self.assertIn(kinds(is_plain(value)), (kinds(True), kinds(False)))
            self.assertEqual(kinds(value), kinds(before))


class WriteValueTest(unittest.TestCase):
    """[4]"""

    def test_texts(self):
        for value, text in PLAIN_TEXTS:
            with self.subTest(text):
                self.assertEqual(write_value(value), text)
                self.assertEqual(write_value(value=value), text)

    def test_the_whole_value_is_told_if_it_is_not_plain(self):
        for value in NOT_PLAIN:
            before = copy.deepcopy(value)
            with self.subTest(value=value), self.assertRaises(InvalidValue) as caught:
                write_value(value)
            self.assertEqual(kinds(caught.exception.given), kinds(value))
            self.assertEqual(kinds(value), kinds(before))

    def test_any_value_is_written_or_told(self):
        for value in ODD_VALUES:
            if is_plain(value):
                self.assertIsInstance(write_value(value), str)
            else:
                with self.assertRaises(InvalidValue) as caught:
                    write_value(value)
                self.assertEqual(kinds(caught.exception.given), kinds(value))

    def test_distinct_values_have_distinct_texts(self):
        values = [value for value, _ in PLAIN_TEXTS] + [value for value in ODD_VALUES if is_plain(value)]
        values += list(itertools.product((None, True, False, 0, 1, -1, "n", "t", "f", ()), repeat=2))
        texts = {}
        for value in values:
            self.assertEqual(texts.setdefault(write_value(value), kinds(value)), kinds(value))


class ReadValueTest(unittest.TestCase):
    """[5]"""

    def test_what_was_written_is_read_back(self):
        for value, text in PLAIN_TEXTS:
            with self.subTest(text):
                self.assertEqual(kinds(read_value(text)), kinds(value))
                self.assertEqual(kinds(read_value(text=text)), kinds(value))
                self.assertEqual(kinds(read_value(write_value(value))), kinds(value))

    def test_whatever_is_plain_is_read_back(self):
        for value in ODD_VALUES:
            if is_plain(value):
                self.assertEqual(kinds(read_value(write_value(value))), kinds(value))

    def test_combined_values_are_read_back(self):
        atoms = (None, True, False, 0, 7, -12, 999999999999, "a", "t2", (), ((),), (1, ("b",)))
        for value in itertools.product(atoms, repeat=3):
            self.assertEqual(kinds(read_value(write_value(value))), kinds(value))

    def check_fault(self, text, at):
        with self.subTest(text), self.assertRaises(InvalidText) as caught:
            read_value(text)
        self.assertEqual(kinds((caught.exception.text, caught.exception.at)), kinds((text, at)))

    def test_faults(self):
        for text, at in FAULTS:
            self.check_fault(text, at)

    def test_texts_that_end_too_early(self):
        for value, text in PLAIN_TEXTS:
            if isinstance(value, tuple):
                for end in range(len(text)):
                    self.check_fault(text[:end], end)

    def test_each_place_with_a_wrong_sign(self):
        for value, text in PLAIN_TEXTS:
            for at in range(len(text) + 1):
                for sign in (" ", "A", "\u00e9", "\n"):
                    self.check_fault(text[:at] + sign + text[at:], at)

    def test_all_short_texts(self):
        # A second way to tell texts and their beginnings: by searching for an end that makes a text whole.
        for many in range(5):
            for signs in itertools.product("(,)-01aN?", repeat=many):
                text = "".join(signs)
                if is_text(text):
                    self.assertEqual(write_value(read_value(text)), text)
                else:
                    self.check_fault(text, max(at for at in range(many + 1) if begins_a_text(text[:at])))


if __name__ == "__main__":
    unittest.main()
