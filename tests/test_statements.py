import copy
import unittest

from oncecoin.audits import effective
from oncecoin.errors import InvalidNumber
from oncecoin.nets import Net
from oncecoin.statements import orders_told, purse_told, rows_of
from tests.helper import ODD_VALUES, kinds
from tests.walks import START, walks

ORDER = ("order", (("tea", 2),), True, None)
PROMISED = ("promised", 60, ((3, "tea", 2),))
ROWS = (
    (("pay", 100), ("done",)), (ORDER, PROMISED), (("draw", 50), ("refused", "coins")), (("draw", 15), ("done",)),
    (("purse",), ("coins", 25)), (("order", (("cup", 1),), False, "gift"), ("promised", 9, ((2, "cup", 1),))),
    (("back", (7, 2), 4, "tea", 1), ("given", 30)), (("cancel", (7, 6)), ("freed", 9)),
    (("cancel", (7, 2)), ("refused", "nothing")), (("back", (7, 2), 3, "tea", 1), ("given", 29)),
    (("back", (7, 2), 3, "tea", 1), ("refused", "nothing")), (("order", (("cup", 9),), True, None), ("refused", "coins")),
    (("look", (7, 2)), ("shows", ((), 60, 60, 60, 59))), (("rate", 5), ("refused", "right")),
    (("cancel", (7, 3)), ("refused", "order")), (("look", (7, 3)), ("refused", "order")),
)


def shapes(rows):
    """The rows as other sequences."""
    return (rows, list(rows), [list(row) for row in rows])


class ToldTest(unittest.TestCase):

    def test_no_rows(self):
        for coins in (0, 7, 900000000, -3):
            self.assertEqual(kinds(purse_told((), coins)), kinds(coins))
            self.assertEqual(kinds(purse_told([], coins)), kinds(coins))
        self.assertEqual(kinds(orders_told(7, ())), kinds(()))

    def test_the_purse_step_by_step(self):
        changes = (100, -60, 0, -15, 0, -9, 30, 9, 0, 29, 0, 0, 0, 0, 0, 0)
        for many in range(len(ROWS) + 1):
            for rows in shapes(ROWS[:many]):
                before = copy.deepcopy(rows)
                self.assertEqual(kinds(purse_told(rows, 5)), kinds(5 + sum(changes[:many])))
                self.assertEqual(kinds(rows), kinds(before))

    def test_a_promised_order_without_a_price(self):
        rows = ((ORDER, ("promised", 0, ((3, "tea", 2),))), (("cancel", (1, 1)), ("freed", 0)))
        self.assertEqual((purse_told(rows, 4), orders_told(1, rows)), (4, (((1, 1), 0, 0, 0),)))

    def test_deeds_of_the_clerk_bring_nothing(self):
        rows = ((("price", "tea", 30), ("done",)), (("stock", 3, "tea", 5), ("done",)), (("rate", 70), ("done",)),
                (("coupon", "gift", 9), ("done",)), (("move", 3, "tea", 2), ("done",)), (("pay", 5), ("refused", "right")),
                (("send", (7, 2), 3), ("sent", (("tea", 2),), 60)), (("count", "tea"), ("counts", 0, ((1, 2),) * 3)))
        self.assertEqual(kinds((purse_told(rows, 3), orders_told(0, rows))), kinds((3, ())))

    def test_orders(self):
        for rows in shapes(ROWS):
            before = copy.deepcopy(rows)
            self.assertEqual(kinds(orders_told(7, rows)), kinds((((7, 2), 60, 0, 59), ((7, 6), 9, 9, 0))))
            self.assertEqual(kinds(rows), kinds(before))
        self.assertEqual(orders_told(7, ROWS[:2]), (((7, 2), 60, 0, 0),))
        self.assertEqual(orders_told(7, ROWS[:7]), (((7, 2), 60, 0, 30), ((7, 6), 9, 0, 0)))
        # The deeds are of customer 7: for another one they bring nothing.
        self.assertEqual(orders_told(3, ROWS), (((3, 2), 60, 0, 0), ((3, 6), 9, 0, 0)))

    def test_an_order_of_which_a_part_was_sent(self):
        rows = ((ORDER, PROMISED), (("back", (4, 1), 2, "tea", 1), ("given", 20)), (("cancel", (4, 1)), ("freed", 31)),
                (("back", (4, 1), 2, "tea", 1), ("given", 9)), (ORDER, PROMISED))
        self.assertEqual(orders_told(4, rows), (((4, 1), 60, 31, 29), ((4, 5), 60, 0, 0)))
        self.assertEqual(purse_told(rows, 120), 60)


class NetTest(unittest.TestCase):

    def test_rows_of_nets(self):
        net = Net(2, start=START)
        for customer in range(10):
            self.assertEqual(kinds(rows_of(net, customer)), kinds(()))
        net.ask(7, ("pay", 30))
        self.assertEqual(rows_of(net, 7), ())
        net.calm()
        net.ask(7, ("order", (("tea", 2),), True, None))
        self.assertEqual(kinds(rows_of(net, 7)), kinds(((("pay", 30), ("done",)),)))
        net.calm()
        rows = ((("pay", 30), ("done",)), (("order", (("tea", 2),), True, None), ("promised", 64, ((2, "tea", 2),))))
        self.assertEqual(kinds(rows_of(net, 7)), kinds(rows))
        self.assertEqual(rows_of(net, 6), ())
        self.assertEqual(purse_told(rows_of(net, 7), 150), 116)
        self.assertEqual(orders_told(7, rows_of(net, 7)), (((7, 2), 64, 0, 0),))

    def test_invalid_customers(self):
        net = Net(1)
        for customer in ODD_VALUES + (10, -1, "7", "c7", (7,), [7]):
            if kinds(customer) in (kinds(0), kinds(1)):
                continue
            with self.assertRaises(InvalidNumber) as caught:
                rows_of(net, customer)
            self.assertEqual(kinds(caught.exception.number), kinds(customer))

    def test_what_customers_can_count_stands_at_the_bank(self):
        """The sentence in bold of [35], at drawn moments."""
        counted = 0
        for walk in walks(30, first=400):
            first = dict(walk.start)
            for _ in walk.moments():
                values = dict(effective(walk.net))
                for customer in range(1, 10):
                    if walk.net.open_deed(customer) is None:
                        purse = (5, "purse", customer)
                        rows = rows_of(walk.net, customer)
                        self.assertEqual(purse_told(rows, first.get(purse, 0)), values.get(purse, 0))
                        self.check_orders(customer, rows, values)
                        counted += len(rows) > 0
        self.assertGreater(counted, 1000)

    def check_orders(self, customer, rows, values):
        """What a customer is told of orders, beside their records."""
        found = {order_id: row for order_id, *row in orders_told(customer, rows)}
        records = {key[2:]: value for key, value in values.items() if key[1:3] == ("order", customer)}
        self.assertEqual(sorted(found), sorted(records))
        for order_id, (total, freed, given) in found.items():
            parts, _, whole, charged, back = records[order_id]
            self.assertEqual((total, given), (whole, back))
            if "held" not in [part[4] for part in parts]:
                self.assertEqual(freed, total - charged)


if __name__ == "__main__":
    unittest.main()
