import copy
import random
import unittest

from oncecoin.forms import first_value
from oncecoin.plain import PlainBook
from oncecoin.sums import coins, earned, faults, owed, promised, things
from tests.helper import kinds
from tests.model import ITEMS, some_deeds

DEEDS = (
    ((0, 1), ("price", "cup", 7)), ((0, 2), ("price", "tea", 30)), ((0, 3), ("stock", 2, "tea", 5)),
    ((0, 4), ("stock", 3, "tea", 9)), ((0, 5), ("stock", 3, "cup", 4)), ((7, 1), ("pay", 900)),
    ((8, 1), ("pay", 200)), ((7, 2), ("order", (("cup", 2), ("tea", 7)), True, None)),
    ((8, 2), ("order", (("tea", 3),), True, None)), ((0, 6), ("send", (7, 2), 2)),
    ((7, 3), ("back", (7, 2), 4, "tea", 1)), ((0, 7), ("move", 3, "tea", 2)), ((0, 8), ("move", 3, "cup", 1)),
    ((8, 3), ("order", (("tea", 1),), True, None)), ((8, 4), ("cancel", (8, 3))),
)
# What these deeds come to: the order (7, 2) holds what store 3 promised, (8, 2) holds all.
BIG = (7, 2)
SMALL = (8, 2)


def sound():
    """Values in which nothing is wrong."""
    book = PlainBook()
    for deed_id, deed in DEEDS:
        book.do(deed_id, deed)
    return dict(book.all_values())


def pairs(values):
    """The dict as a sequence of pairs, without first values."""
    return tuple(sorted([(key, value) for key, value in values.items() if value != first_value(key)]))


def moved(values, *changes):
    """The values after these changes (key, change) of amounts."""
    values = dict(values)
    for key, change in changes:
        values[key] = values.get(key, 0) + change
    return pairs(values)


def with_record(values, order_id, record, *changes):
    return moved({**values, (1, "order") + order_id: record}, *changes)


class SumTest(unittest.TestCase):

    def test_the_values_are_as_expected(self):
        values = sound()
        self.assertEqual(values[(1, "order") + BIG], (
            ((2, "tea", 5, 30, "sent", 1), (3, "cup", 2, 7, "held", 0), (3, "tea", 2, 30, "held", 0)), 224, 224, 150, 30))
        self.assertEqual(values[(1, "order") + SMALL], (((3, "tea", 3, 30, "held", 0),), 90, 90, 0, 0))
        self.assertEqual(values[(1, "order", 8, 3)], (((3, "tea", 1, 30, "freed", 0),), 30, 30, 0, 0))

    def test_things(self):
        values = pairs(sound())
        self.assertEqual(kinds(things(values, "tea")), kinds((14, 3, 5, 4, 2)))
        self.assertEqual(kinds(things(values, "cup")), kinds((4, 1, 2, 0, 1)))
        self.assertEqual(kinds(things(values, "ace")), kinds((0, 0, 0, 0, 0)))
        self.assertEqual(kinds(things((), "tea")), kinds((0, 0, 0, 0, 0)))

    def test_things_of_values_below_nothing(self):
        values = (((1, "away", "tea"), -1), ((2, "came", "tea"), -20), ((2, "free", "tea"), -3),
                  ((3, "came", "tea"), 5), ((3, "held", "tea"), -4), ((4, "held", "tea"), -5), ((4, "out", "tea"), -6))
        self.assertEqual(things(values, "tea"), (-15, -3, -9, -6, -1))

    def test_items_may_be_called_as_parts_of_keys_are(self):
        values = (((1, "price", "free"), 9), ((1, "road", 0, 3), ("free", 5)), ((2, "came", "free"), 3),
                  ((2, "free", "came"), 4), ((2, "free", "free"), 2), ((2, "free", "paid"), 7), ((5, "kept"), 1))
        self.assertEqual(things(values, "free"), (3, 2, 0, 0, 0))
        self.assertEqual(things(values, "came"), (0, 4, 0, 0, 0))
        self.assertEqual(coins(values), (0, 0, 1, 0))

    def test_coins(self):
        self.assertEqual(kinds(coins(pairs(sound()))), kinds((1100, 816, 164, 120)))
        self.assertEqual(kinds(coins(())), kinds((0, 0, 0, 0)))
        values = (((5, "kept"), -1), ((5, "paid"), -7), ((5, "purse", 1), -2), ((5, "purse", 9), 5), ((5, "till"), -4))
        self.assertEqual(coins(values), (-7, 3, -1, -4))

    def test_promised(self):
        values = pairs(sound())
        for store, item, many in ((2, "tea", 0), (3, "tea", 5), (3, "cup", 2), (4, "tea", 0), (2, "cup", 0),
                                  (3, "ace", 0)):
            self.assertEqual(kinds(promised(values, store, item)), kinds(many), (store, item))
        self.assertEqual(kinds(promised((), 2, "tea")), kinds(0))

    def test_promised_looks_at_orders_alone(self):
        values = (((1, "order", 1, 1), (((2, "tea", 4, 0, "held", 9), (2, "tea", 5, 1, "held", 0)), 3, 2, 1, 0)),
                  ((2, "held", "tea"), 70))
        self.assertEqual(promised(values, 2, "tea"), 9)

    def test_owed(self):
        self.assertEqual(kinds(owed(pairs(sound()))), kinds(224 - 150 + 90))
        self.assertEqual(kinds(owed(())), kinds(0))
        for state, coins_owed in (("held", -3), ("sent", 0), ("freed", 0)):
            values = (((1, "order", 1, 1), (((2, "tea", 4, 0, state, 0),), 0, 2, 5, 0)),)
            self.assertEqual(owed(values), coins_owed)
        self.assertEqual(owed((((1, "order", 1, 1), ((), 0, 9, 0, 0)),)), 0)

    def test_earned(self):
        self.assertEqual(kinds(earned(pairs(sound()))), kinds(120))
        self.assertEqual(kinds(earned(())), kinds(0))
        values = (((1, "order", 1, 1), ((), 0, 9, 3, 8)), ((1, "order", 2, 1), ((), 0, 9, 4, 1)), ((5, "till"), 50))
        self.assertEqual(earned(values), -2)


class FaultTest(unittest.TestCase):

    def finds(self, values, *words):
        for passed in (values, list(values), [list(pair) for pair in values]):
            before = copy.deepcopy(passed)
            self.assertEqual(kinds(faults(passed)), kinds(words))
            self.assertEqual(kinds(passed), kinds(before), "values stay as they were")

    def test_lists_of_values(self):
        values = [list(pair) for pair in pairs(sound())]
        self.assertEqual(kinds(things(values, "tea")), kinds((14, 3, 5, 4, 2)))
        self.assertEqual(kinds(coins(values)), kinds((1100, 816, 164, 120)))
        self.assertEqual((promised(values, 3, "tea"), owed(values), earned(values)), (5, 164, 120))

    def test_none(self):
        self.finds((), )
        self.finds(pairs(sound()))
        self.finds((((1, "price", "tea"), 5), ((1, "coupon", "gift"), ("spent", 1, 2)), ((1, "rate"), 3)))

    def test_things(self):
        for key in ((2, "came", "tea"), (3, "free", "cup"), (4, "out", "tea"), (4, "came", "ace"), (3, "out", "ace")):
            self.finds(moved(sound(), (key, 1)), "things")
        self.finds(moved(sound(), ((4, "came", "tea"), -1)), "things")

    def test_things_of_two_items_do_not_make_up_for_one_another(self):
        self.finds(moved(sound(), ((2, "came", "tea"), 1), ((2, "free", "cup"), 1)), "things")

    def test_things_may_lie_in_any_store(self):
        self.finds(moved(sound(), ((2, "came", "tea"), 1), ((4, "free", "tea"), 1)))

    def test_roads(self):
        values = sound()
        self.finds(moved(values, ((1, "away", "tea"), 1), ((3, "free", "tea"), -1)), "roads")
        self.finds(moved({**values, (1, "road", 0, 7): ("tea", 1)}), "roads")
        self.finds(moved({**values, (1, "road", 0, 7): ("cup", 2)}), "roads")
        self.finds(moved({**values, (1, "road", 3, 3): ("ace", 1)}), "roads")
        self.finds(moved({**values, (1, "road", 0, 7): ("tea", 1), (1, "road", 0, 8): ("cup", 2)}), "roads")
        self.finds(moved({**values, (1, "road", 0, 7): ("cup", 1), (1, "road", 0, 8): ("tea", 2)}))
        self.finds(moved({**values, (1, "road", 0, 7): ("tea", 1), (1, "road", 0, 9): ("tea", 1)}))

    def test_coins(self):
        for key in ((5, "paid"), (5, "purse", 7), (5, "purse", 1)):
            self.finds(moved(sound(), (key, 1)), "coins")
        self.finds(moved(sound(), ((5, "paid"), -2000), ((5, "purse", 3), 2)), "coins")

    def test_promises(self):
        values = sound()
        self.finds(moved(values, ((3, "held", "tea"), 1), ((3, "free", "tea"), -1)), "promises")
        self.finds(moved(values, ((3, "held", "tea"), -1), ((2, "held", "tea"), 1)), "promises")
        self.finds(moved(values, ((4, "held", "ace"), 1), ((4, "came", "ace"), 1)), "promises")
        record = (((2, "tea", 3, 30, "held", 0),), 90, 90, 0, 0)
        self.finds(with_record(values, SMALL, record), "promises")

    def test_kept(self):
        for change in (1, -1):
            self.finds(moved(sound(), ((5, "kept"), change), ((5, "purse", 7), -change)), "kept")

    def test_till(self):
        for change in (1, -1):
            self.finds(moved(sound(), ((5, "till"), change), ((5, "purse", 7), -change)), "till")

    def test_orders(self):
        values = sound()
        parts, value, total, charged, given = values[(1, "order") + BIG]
        for record in (
                (parts, value - 1, total, charged, given), (parts, value + 1, total, charged, given),
                (parts[:1] + ((3, "cup", 2, 8, "held", 0),) + parts[2:], value, total, charged, given),
                (((2, "tea", 5, 30, "sent", 2),) + parts[1:], value, total, charged, given),
                (parts[:1] + ((3, "cup", 2, 7, "held", 1),) + parts[2:], value, total, charged, given)):
            self.finds(with_record(values, BIG, record), "orders")
        self.finds(with_record(values, BIG, (parts, value, total, charged + 1, given), ((5, "kept"), -1),
                               ((5, "till"), 1)), "orders")
        self.finds(with_record(values, BIG, (parts, value, total, charged, given + 1), ((5, "purse", 7), 1),
                               ((5, "till"), -1)), "orders")
        self.finds(with_record(values, (1, 1), ((), 1, 0, 0, 0)), "orders")

    def test_orders_whose_shares_are_rounded(self):
        parts = ((2, "cup", 2, 7, "sent", 1), (2, "tea", 1, 3, "freed", 2), (3, "tea", 1, 3, "freed", 0))
        # 99 * 14 // 20 and 99 * (7 + 6) // 20: pieces given back count on parts of any state.
        values = {(2, "out", "cup"): 2, (2, "came", "cup"): 2, (5, "till"): 5, (5, "paid"): 5}
        self.finds(with_record(values, (1, 1), (parts, 20, 99, 69, 64)))
        self.finds(with_record(values, (1, 1), (parts, 20, 99, 69, 63), ((5, "till"), 1), ((5, "paid"), 1)), "orders")
        self.finds(with_record(values, (1, 1), (parts, 20, 99, 70, 65)), "orders")

    def test_orders_without_value(self):
        parts = ((2, "cup", 2, 0, "sent", 1),)
        values = {(2, "out", "cup"): 1, (2, "came", "cup"): 1}
        self.finds(with_record(values, (1, 1), (parts, 0, 9, 0, 0)))
        self.finds(with_record(values, (1, 1), (parts, 0, 9, 1, 1)), "orders")

    def test_below(self):
        values = sound()
        for changes in (
                (((2, "free", "tea"), -1), ((3, "free", "tea"), 1)), (((5, "purse", 1), -1), ((5, "purse", 7), 1)),
                (((4, "free", "ace"), -1), ((4, "out", "ace"), 1))):
            self.finds(moved(values, *changes), "below")
        self.finds((((2, "held", "tea"), -1), ((2, "out", "tea"), 1)), "promises", "below")
        self.finds((((1, "away", "tea"), -1), ((2, "out", "tea"), 1)), "roads", "below")
        self.finds((((5, "kept"), -1), ((5, "paid"), -1)), "kept", "below")
        self.finds((((5, "paid"), -1), ((5, "till"), -1)), "till", "below")
        till = (((1, "order", 1, 1), (((2, "cup", 1, 0, "sent", 1),), 0, 0, 0, 0)), ((5, "paid"), -2),
                ((5, "purse", 1), -2))
        self.finds(till, "below")

    def test_what_may_be_below(self):
        self.finds((((2, "came", "tea"), -3), ((2, "out", "tea"), -3)))
        self.finds((((3, "free", "tea"), 2), ((3, "out", "tea"), -2), ((5, "paid"), -1), ((5, "purse", 1), -1)), "below")

    def test_several_in_their_order(self):
        self.finds((((2, "came", "tea"), 1), ((5, "paid"), 1)), "things", "coins")
        self.finds((((1, "order", 1, 1), (((2, "tea", 1, 5, "held", 0),), 4, 5, 0, 0)),), "promises", "kept", "orders")
        self.finds((((1, "order", 1, 1), (((2, "tea", 1, 5, "sent", 0),), 5, 5, 5, 0)),), "till")
        self.finds(
            (((1, "away", "tea"), -1), ((1, "order", 1, 1), (((2, "tea", 1, 5, "held", 0),), 4, 5, 1, 3)),
             ((2, "came", "tea"), 9), ((5, "paid"), 3)),
            "things", "roads", "coins", "promises", "kept", "till", "orders", "below")


class BookTest(unittest.TestCase):
    """[17]: what no deed of a plain book can break."""

    def test_books_have_no_faults(self):
        for seed in range(120):
            book = PlainBook()
            for deed_id, deed in some_deeds(random.Random(seed), 40):
                book.do(deed_id, deed)
                self.assertEqual(kinds(faults(book.all_values())), kinds(()), (seed, deed_id, deed))
            self.assertEqual(faults(list(book.all_values())), ())

    def test_spent_coupons(self):
        many = 0
        for seed in range(120):
            book, spending = PlainBook(), {}
            for deed_id, deed in some_deeds(random.Random(seed), 40):
                if book.do(deed_id, deed)[0] == "promised" and deed[3] is not None:
                    self.assertNotIn(deed[3], spending, "a coupon is spent once")
                    spending[deed[3]] = deed_id
            for key, value in book.all_values():
                if key[1] == "coupon":
                    word, *order_id = value
                    self.assertEqual(word == "spent", key[2] in spending)
                    if word == "spent":
                        self.assertEqual(tuple(order_id), spending[key[2]])
                        many += 1
        self.assertGreater(many, 4)

    def test_coins_of_orders(self):
        ended = 0
        for seed in range(120):
            book, taken, freed = PlainBook(), {}, {}
            for deed_id, deed in some_deeds(random.Random(seed), 40):
                answer = book.do(deed_id, deed)
                if answer[0] == "promised":
                    taken[deed_id] = answer[1]
                if answer[0] == "freed":
                    self.assertNotIn(deed[1], freed)
                    freed[deed[1]] = answer[1]
                for order_id in taken:
                    parts, _, total, charged, given = book.value((1, "order") + order_id)
                    self.assertTrue(0 <= given <= charged <= total == taken[order_id])
                    if all([part[4] != "held" for part in parts]):
                        self.assertEqual(charged + freed.get(order_id, 0), taken[order_id])
                        ended += 1
        self.assertGreater(ended, 200)

    def test_sums_of_books(self):
        for seed in range(40):
            book, held = PlainBook(), {}
            for deed_id, deed in some_deeds(random.Random(seed), 40):
                book.do(deed_id, deed)
            values = book.all_values()
            for item in ITEMS:
                came, free, held, out, away = things(values, item)
                self.assertEqual(came, sum([book.value((store, "came", item)) for store in (2, 3, 4)]))
                self.assertEqual(free, sum([book.value((store, "free", item)) for store in (2, 3, 4)]))
                self.assertEqual(held, sum([book.value((store, "held", item)) for store in (2, 3, 4)]))
                self.assertEqual(out, sum([book.value((store, "out", item)) for store in (2, 3, 4)]))
                self.assertEqual(away, book.value((1, "away", item)))
                for store in (2, 3, 4):
                    self.assertEqual(promised(values, store, item), book.value((store, "held", item)))
            self.assertEqual(owed(values), book.value((5, "kept")))
            self.assertEqual(earned(values), book.value((5, "till")))
            self.assertEqual(coins(values)[0], book.value((5, "paid")))


if __name__ == "__main__":
    unittest.main()
