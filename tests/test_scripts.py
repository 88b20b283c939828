import unittest

from oncecoin.forms import is_deed
from oncecoin.scripts import next_step
from tests.script_case import ScriptCase, ask, refused

DONE = ("done",)

CLERK_DEEDS = (
    ("price", "tea", 30), ("rate", 70), ("coupon", "gift", 5), ("stock", 2, "tea", 5), ("move", 2, "tea", 5),
    ("arrive", (0, 1), 3, "tea"), ("send", (7, 1), 2), ("count", "tea"),
)
BUYER_DEEDS = (("pay", 5), ("draw", 5), ("order", (("tea", 2),), True, None), ("purse",))
OWN_DEEDS = (("cancel", (7, 1)), ("back", (7, 1), 2, "tea", 1))
RECORD = (((2, "tea", 2, 30, "held", 0),), 60, 60, 0, 0)


class RightTest(ScriptCase):

    def test_deeds_of_the_clerk(self):
        for deed in CLERK_DEEDS:
            self.assertTrue(is_deed(deed))
            self.assertEqual(next_step((0, 3), deed, ())[0], "ask", deed)
            for customer in range(1, 10):
                self.refuses((customer, 3), deed, [], "right")

    def test_deeds_of_all_others(self):
        for deed in BUYER_DEEDS:
            self.assertTrue(is_deed(deed))
            self.refuses((0, 3), deed, [], "right")
            for customer in range(1, 10):
                self.assertEqual(next_step((customer, 3), deed, ())[0], "ask", deed)

    def test_deeds_of_whose_order_it_is(self):
        for deed in OWN_DEEDS:
            self.assertTrue(is_deed(deed))
            for customer in range(10):
                if customer == 7:
                    self.assertEqual(next_step((customer, 3), deed, ())[0], "ask", deed)
                else:
                    self.refuses((customer, 3), deed, [], "right")

    def test_the_clerk_has_no_orders_to_cancel_or_bring_back(self):
        for customer in range(10):
            self.refuses((customer, 3), ("cancel", (0, 1)), [], "right")
            self.refuses((customer, 3), ("back", (0, 1), 2, "tea", 1), [], "right")

    def test_the_clerk_may_look_at_all_orders(self):
        for owner in range(10):
            for customer in range(10):
                deed = ("look", (owner, 2))
                if customer in (0, owner):
                    self.assertEqual(next_step((customer, 3), deed, ()),
                                     ask(1, ((1, "order", owner, 2), "see")), (customer, owner))
                else:
                    self.refuses((customer, 3), deed, [], "right")


class OfficeTest(ScriptCase):

    def test_price(self):
        key = (1, "price", "tea")
        for before in (None, 0, 30, 99999):
            for coins in (0, 1, 30, 99999):
                self.goes((0, 1), ("price", "tea", coins), [(ask(1, (key, "own")), (before,))],
                          ("done", ((key, coins),), DONE))

    def test_rate(self):
        key = (1, "rate")
        for before in (0, 70, 999):
            for rate in (0, 1, 70, 999):
                self.goes((0, 1), ("rate", rate), [(ask(1, (key, "own")), (before,))],
                          ("done", ((key, rate),), DONE))

    def test_coupon(self):
        key = (1, "coupon", "gift")
        for coins in (0, 5, 99999):
            deed = ("coupon", "gift", coins)
            first = ask(1, (key, "own"))
            self.goes((0, 1), deed, [(first, (None,))], ("done", ((key, ("unused", coins)),), DONE))
            for before in (("unused", 0), ("unused", coins), ("spent", 7, 1)):
                self.refuses((0, 1), deed, [(first, (before,))], "coupon")

    def test_look(self):
        key = (1, "order", 7, 2)
        first = ask(1, (key, "see"))
        for deed_id in ((7, 3), (0, 999)):
            self.goes(deed_id, ("look", (7, 2)), [(first, (RECORD,))], ("done", (), ("shows", RECORD)))
            self.refuses(deed_id, ("look", (7, 2)), [(first, (None,))], "order")


class GoodsTest(ScriptCase):

    def test_stock(self):
        for store in (2, 3, 4):
            for count in (1, 5, 999):
                came, free = (store, "came", "tea"), (store, "free", "tea")
                self.goes((0, 1), ("stock", store, "tea", count),
                          [(ask(store, (came, "add"), (free, "add")), (None, None))],
                          ("done", ((came, count), (free, count)), DONE))

    def test_move(self):
        away, road, free = (1, "away", "tea"), (1, "road", 0, 12), (3, "free", "tea")
        deed = ("move", 3, "tea", 5)
        rows = [(ask(1, (away, "add"), (road, "own")), (None, None)), (ask(3, (free, 5)), (5,))]
        self.goes((0, 12), deed, rows,
                  ("done", ((away, 5), (road, ("tea", 5)), (free, -5)), DONE))
        for answer in (0, 1, 4):
            self.refuses((0, 12), deed, [rows[0], (rows[1][0], (answer,))], "stock")

    def test_move_of_the_least_and_the_most(self):
        for count in (1, 999):
            away, road, free = (1, "away", "tea"), (1, "road", 0, 999), (2, "free", "tea")
            rows = [(ask(1, (away, "add"), (road, "own")), (None, None)), (ask(2, (free, count)), (count,))]
            self.goes((0, 999), ("move", 2, "tea", count), rows,
                      ("done", ((away, count), (road, ("tea", count)), (free, -count)), DONE))

    def test_arrive(self):
        away, road, free = (1, "away", "tea"), (1, "road", 0, 12), (4, "free", "tea")
        deed = ("arrive", (0, 12), 4, "tea")
        first = ask(1, (away, "add"), (road, "own"))
        for count in (1, 5, 999):
            rows = [(first, (None, ("tea", count))), (ask(4, (free, "add")), (None,))]
            self.goes((0, 13), deed, rows,
                      ("done", ((away, -count), (road, None), (free, count)), DONE))
        self.refuses((0, 13), deed, [(first, (None, None))], "road")
        self.refuses((0, 13), deed, [(first, (None, ("cup", 5)))], "road")

    def test_arrive_of_what_no_clerk_moved(self):
        first = ask(1, ((1, "away", "tea"), "add"), ((1, "road", 7, 1), "own"))
        self.refuses((0, 13), ("arrive", (7, 1), 4, "tea"), [(first, (None, None))], "road")

    def test_arrive_of_itself(self):
        first = ask(1, ((1, "away", "tea"), "add"), ((1, "road", 0, 13), "own"))
        self.refuses((0, 13), ("arrive", (0, 13), 4, "tea"), [(first, (None, None))], "road")

    def test_count(self):
        rows = [(ask(1, ((1, "away", "tea"), "see")), (9,))]
        for store, answers in ((2, (1, 2)), (3, (0, 0)), (4, (5, 999))):
            rows.append((ask(store, ((store, "free", "tea"), "see"), ((store, "held", "tea"), "see")), answers))
        self.goes((0, 1), ("count", "tea"), rows, ("done", (), ("counts", 9, ((1, 2), (0, 0), (5, 999)))))


class CoinsTest(ScriptCase):

    def test_pay(self):
        for coins in (1, 100, 99999):
            paid, purse = (5, "paid"), (5, "purse", 7)
            self.goes((7, 1), ("pay", coins), [(ask(5, (paid, "add"), (purse, "add")), (None, None))],
                      ("done", ((paid, coins), (purse, coins)), DONE))

    def test_draw(self):
        for coins in (1, 100, 99999):
            paid, purse = (5, "paid"), (5, "purse", 9)
            first = ask(5, (paid, "add"), (purse, coins))
            self.goes((9, 1), ("draw", coins), [(first, (None, coins))],
                      ("done", ((paid, -coins), (purse, -coins)), DONE))
            self.refuses((9, 1), ("draw", coins), [(first, (None, coins - 1))], "coins")
            self.refuses((9, 1), ("draw", coins), [(first, (None, 0))], "coins")

    def test_purse(self):
        for coins in (0, 1, 900000000):
            self.goes((1, 999), ("purse",), [(ask(5, ((5, "purse", 1), "see")), (coins,))],
                      ("done", (), ("coins", coins)))


class FormTest(unittest.TestCase):

    def test_no_right_whatever_is_told(self):
        self.assertEqual(next_step((3, 1), ("rate", 5), []), refused("right"))

    def test_deeds_at_several_stores_and_items_do_not_touch_one_another(self):
        for store in (2, 3, 4):
            for item in ("tea", "a", "zzzzzzzz"):
                step = next_step((0, 1), ("stock", store, item, 3), ())
                self.assertEqual([key for key, _, _ in step[2]], [(store, "came", item), (store, "free", item)])


if __name__ == "__main__":
    unittest.main()
