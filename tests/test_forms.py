import copy
import unittest

from oncecoin.errors import NoKey
from oncecoin.forms import first_value, is_amount, is_deed, is_id, is_key
from tests.helper import ODD_VALUES, kinds

# For each kind of part: values that it may have, at both ends, and values that it may not have.
HOUSES = {1: ((1,), (0, 2, 3, 4, 5, True, None, "1")), 5: ((5,), (1, 2, 3, 4, 6, None, "5")),
          "s": ((2, 3, 4), (0, 1, 5, 6, -2, True, None, "2", (2,), [2]))}
WORD = (("a", "z", "tea", "abcdefgh", "none"),
        ("", "abcdefghi", "a" * 2000, "Tea", "teA", "t a", "tea1", "1", "t-a", "tea\n", "\u00e9", "te\u00e4", "\u00aa",
         1, True, None, (), ("tea",), ["tea"]))
CUSTOMER = ((0, 1, 9), (-1, 10, 10 ** 399, True, False, None, "1", (1,), [1]))
BUYER = ((1, 9), (0, -1, 10, True, False, None, "1", [1]))
NUMBER = ((1, 2, 999), (0, -1, 1000, 10 ** 399, True, None, "1", (1,), [1]))
COINS = ((0, 1, 99999), (-1, 100000, 10 ** 399, True, False, None, "1", [1]))
SOME_COINS = ((1, 99999), (0, -1, 100000, 10 ** 399, True, None, "1", [1]))
RATE = ((0, 1, 999), (-1, 1000, True, False, None, "1", [1]))
STORE = HOUSES["s"]
FLAG = ((True, False), (0, 1, None, "T", "true", (), (True,), [True]))
IDS = (((0, 1), (1, 1), (9, 1), (0, 999), (9, 999), (5, 42)),
       (None, True, 1, "a", "ab", (), (1,), (1, 1, 1), [1, 1], ((1, 1),), (-1, 1), (10, 1), (1, 0), (1, -1), (1, 1000),
        (True, 1), (False, 1), (1, True), ("1", 1), (1, "1"), (None, 1), (1, None), ([1], 1), (1, [1]), (1, (1,)),
        (10 ** 399, 1), (1, 10 ** 399)))
LINES = (((("tea", 1),), (("a", 1), ("b", 999)), (("a", 1), ("aa", 2), ("b", 3)),
          (("a", 1), ("b", 1), ("c", 1), ("abcdefgh", 1))[:3], (("a", 9), ("b", 9), ("c", 9), ("d", 9)),
          (("abcdefgh", 999), ("b", 1))),
         ((), [], None, True, 1, "tea", ("tea", 1), (("tea", 1), ("cup", 1)), (("b", 1), ("a", 1)),
          (("a", 1), ("a", 1)), (("a", 1), ("a", 2)), (("a", 1), ("c", 1), ("b", 1)), (("aa", 1), ("a", 1)),
          (("a", 1), ("b", 1), ("c", 1), ("d", 1), ("e", 1)),
          [("tea", 1)], (["tea", 1],), (("a", 1), ["b", 1]), (("tea",),), (("tea", 1, 1),), ((),), (None,), (1,),
          ("ab",), (("tea", 0),), (("tea", -1),), (("tea", 1000),), (("tea", True),), (("tea", None),), (("tea", "1"),),
          (("tea", [1]),), (("", 1),), (("Tea", 1),), (("abcdefghi", 1),), ((1, "tea"),), ((1, 1),), ((None, 1),),
          ((["tea"], 1),), ((("tea",), 1),), (("a", 1), (1, 1)), (("a", 1), (None, 1))))
COUPON = (WORD[0] + (None,), tuple(value for value in WORD[1] if value is not None))
ORDER_KEY = (CUSTOMER, NUMBER)

# (house, name, the parts behind, the first value, whether it is an amount)
KEYS = (
    (1, "price", (WORD,), None, False),
    (1, "rate", (), 0, False),
    (1, "coupon", (WORD,), None, False),
    (1, "order", ORDER_KEY, None, False),
    (1, "road", ORDER_KEY, None, False),
    (1, "away", (WORD,), 0, True),
    ("s", "came", (WORD,), 0, True),
    ("s", "free", (WORD,), 0, True),
    ("s", "held", (WORD,), 0, True),
    ("s", "out", (WORD,), 0, True),
    (5, "purse", (BUYER,), 0, True),
    (5, "kept", (), 0, True),
    (5, "till", (), 0, True),
    (5, "paid", (), 0, True),
)

DEEDS = (
    ("price", (WORD, COINS)),
    ("rate", (RATE,)),
    ("coupon", (WORD, COINS)),
    ("stock", (STORE, WORD, NUMBER)),
    ("move", (STORE, WORD, NUMBER)),
    ("arrive", (IDS, STORE, WORD)),
    ("send", (IDS, STORE)),
    ("count", (WORD,)),
    ("pay", (SOME_COINS,)),
    ("draw", (SOME_COINS,)),
    ("order", (LINES, FLAG, COUPON)),
    ("cancel", (IDS,)),
    ("back", (IDS, STORE, WORD, NUMBER)),
    ("purse", ()),
    ("look", (IDS,)),
)


def right_rows(parts):
    """Rows of right parts, such that each right value of each part stands in one of them."""
    many = max([len(right) for right, _ in parts] + [1])
    return [tuple(right[k % len(right)] for right, _ in parts) for k in range(many)]


def wrong_rows(parts):
    """Rows with one wrong part, and of a wrong length."""
    first = tuple(right[0] for right, _ in parts)
    rows = [first[:k] + (value,) + first[k + 1:] for k, (_, wrong) in enumerate(parts) for value in wrong]
    rows += [first[:k] + first[k + 1:] for k in range(len(first))]
    rows += [first + (extra,) for extra in (None, 1, "tea", ())]
    return rows


def right_keys():
    """Each with its first value and whether it is an amount."""
    for house, name, parts, first, amount in KEYS:
        for place in HOUSES[house][0]:
            for row in right_rows(parts):
                yield (place, name, *row), first, amount


def wrong_keys():
    for house, name, parts, _, _ in KEYS:
        place = HOUSES[house][0][0]
        row = right_rows(parts)[0]
        for other in HOUSES[house][1]:
            yield (other, name, *row)
        for wrong in wrong_rows(parts):
            yield (place, name, *wrong)
        yield [place, name, *row]
        yield (name, *row)
        yield (name, place, *row)
        yield (place, *row)
        yield (place,)
        yield ((place, name, *row),)
        for word in (name.upper(), name + "s", "", None, True, 1, [name], (name,)):
            yield (place, word, *row)


def right_deeds():
    for name, parts in DEEDS:
        for row in right_rows(parts):
            yield (name, *row)


def wrong_deeds():
    for name, parts in DEEDS:
        row = right_rows(parts)[0]
        for wrong in wrong_rows(parts):
            yield (name, *wrong)
        yield [name, *row]
        yield (*row, name) if parts else (name, name)
        yield row
        yield ((name, *row),)
        yield name
        for word in (name.upper(), name + "s", "", None, True, 1, [name], (name,)):
            yield (word, *row)


class IsIdTest(unittest.TestCase):
    """[6]"""

    def test_ids(self):
        for value in IDS[0]:
            with self.subTest(value=value):
                self.assertIs(is_id(value), True)
                self.assertIs(is_id(value=value), True)

    def test_other_values(self):
        for value in IDS[1]:
            with self.subTest(value=value):
                self.assertIs(is_id(value), False)

    def test_all_customers_and_numbers(self):
        found = [(k, n) for k in range(-2, 13) for n in range(-2, 1003) if is_id((k, n))]
        self.assertEqual(found, [(k, n) for k in range(10) for n in range(1, 1000)])


class KeysTest(unittest.TestCase):
    """[6]"""

    def test_fourteen_kinds(self):
        self.assertEqual(len({(house, name) for house, name, *_ in KEYS}), 14)

    def test_keys(self):
        for key, _, _ in right_keys():
            with self.subTest(key=key):
                self.assertIs(is_key(key), True)
                self.assertIs(is_key(value=key), True)

    def test_other_values(self):
        for value in wrong_keys():
            with self.subTest(value=value):
                self.assertIs(is_key(value), False)

    def test_each_name_stands_in_its_houses_alone(self):
        for house, name, parts, _, _ in KEYS:
            row = right_rows(parts)[0]
            self.assertEqual([k for k in range(-1, 8) if is_key((k, name, *row))], list(HOUSES[house][0]))

    def test_a_purse_belongs_to_a_customer_who_is_not_the_clerk(self):
        self.assertEqual([k for k in range(-1, 12) if is_key((5, "purse", k))], list(range(1, 10)))

    def test_first_value(self):
        for key, first, _ in right_keys():
            with self.subTest(key=key):
                self.assertEqual(kinds(first_value(key)), kinds(first))
                self.assertEqual(kinds(first_value(key=key)), kinds(first))

    def test_is_amount(self):
        for key, _, amount in right_keys():
            with self.subTest(key=key):
                self.assertIs(is_amount(key), amount)
                self.assertIs(is_amount(key=key), amount)

    def test_what_is_no_key_is_told(self):
        for ask in (first_value, is_amount):
            for value in [*wrong_keys(), *(value for value in ODD_VALUES if not is_key(value))]:
                before = copy.deepcopy(value)
                with self.subTest(ask.__name__, value=value), self.assertRaises(NoKey) as caught:
                    ask(value)
                self.assertEqual(kinds(caught.exception.key), kinds(value))
                self.assertEqual(kinds(value), kinds(before))


class IsDeedTest(unittest.TestCase):
    """[7]"""

    def test_fifteen_kinds(self):
        self.assertEqual(len({name for name, _ in DEEDS}), 15)

    def test_deeds(self):
        for deed in right_deeds():
            with self.subTest(deed=deed):
                self.assertIs(is_deed(deed), True)
                self.assertIs(is_deed(value=deed), True)

    def test_other_values(self):
        for value in wrong_deeds():
            with self.subTest(value=value):
                self.assertIs(is_deed(value), False)

    def test_the_form_alone_is_asked_for_and_not_who_does_it(self):
        self.assertIs(is_deed(("look", (0, 1))), True)
        self.assertIs(is_deed(("cancel", (0, 999))), True)


class AnyValueTest(unittest.TestCase):
    """[2]"""

    def test_any_value_is_answered_and_stays_as_it_was(self):
        for ask in (is_id, is_deed, is_key):
            for value in [*ODD_VALUES, *wrong_keys(), *wrong_deeds()]:
                before = copy.deepcopy(value)
                with self.subTest(ask.__name__, value=value):
                    self.assertIn(kinds(ask(value)), (kinds(True), kinds(False)))
                    self.assertEqual(kinds(value), kinds(before))

    def test_odd_values_have_no_form(self):
        for value in ODD_VALUES:
            self.assertIs(is_deed(value), False)
            self.assertIs(is_key(value), False)
            self.assertIs(is_id(value), False)


if __name__ == "__main__":
    unittest.main()
