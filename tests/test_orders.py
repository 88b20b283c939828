import unittest

from tests.script_case import ScriptCase, ask

ID = (7, 5)
RECORD_KEY = (1, "order", 7, 5)
RATE, KEPT, TILL, PURSE = (1, "rate"), (5, "kept"), (5, "till"), (5, "purse", 7)
GIFT = (1, "coupon", "gift")


def price(item):
    return (1, "price", item)


def free(store, item):
    return (store, "free", item)


def held(store, item):
    return (store, "held", item)


def out(store, item):
    return (store, "out", item)


def part(store, item, count, coins, state="held", back=0):
    return (store, item, count, coins, state, back)


class OrderCase(ScriptCase):
    """Orders of the customer 7 with the number 5; tea stands for one item, cup and tea for two."""

    def order(self, items, whole=True, coupon=None):
        """The deed, and its first ask."""
        requests = [(RECORD_KEY, "own")] + [(price(item), "see") for item in sorted(items)] + [(RATE, "see")]
        if coupon is not None:
            requests = [((1, "coupon", coupon), "own")] + requests
        return ("order", tuple(sorted(items.items())), whole, coupon), ask(1, *requests)

    def store_ask(self, store, needed):
        """The ask at a store for these items; needed is a dict."""
        return ask(store, *([(free(store, item), needed[item]) for item in sorted(needed)]
                            + [(held(store, item), "add") for item in sorted(needed)]))

    def bank_ask(self, total):
        return ask(5, (KEPT, "add"), (PURSE, total))


class OrderTest(OrderCase):

    def test_one_item_at_the_first_store(self):
        deed, first = self.order({"tea": 2})
        rows = [(first, (None, 30, 0)), (self.store_ask(2, {"tea": 2}), (2, None)), (self.bank_ask(60), (None, 60))]
        record = ((part(2, "tea", 2, 30),), 60, 60, 0, 0)
        self.goes(ID, deed, rows, ("done", (
            (RECORD_KEY, record), (free(2, "tea"), -2), (held(2, "tea"), 2), (KEPT, 60), (PURSE, -60),
        ), ("promised", 60, ((2, "tea", 2),))))

    def test_the_next_store_is_asked_for_what_is_still_needed(self):
        deed, first = self.order({"cup": 3, "tea": 999})
        rows = [
            (first, (None, 10, 1, 0)),
            (self.store_ask(2, {"cup": 3, "tea": 999}), (1, 900, None, None)),
            (self.store_ask(3, {"cup": 2, "tea": 99}), (2, 0, None, None)),
            (self.store_ask(4, {"tea": 99}), (99, None)),
            (self.bank_ask(1029), (None, 1029)),
        ]
        parts = (part(2, "cup", 1, 10), part(2, "tea", 900, 1), part(3, "cup", 2, 10), part(4, "tea", 99, 1))
        self.goes(ID, deed, rows, ("done", (
            (RECORD_KEY, (parts, 1029, 1029, 0, 0)),
            (free(2, "cup"), -1), (free(2, "tea"), -900), (held(2, "cup"), 1), (held(2, "tea"), 900),
            (free(3, "cup"), -2), (held(3, "cup"), 2),
            (free(4, "tea"), -99), (held(4, "tea"), 99),
            (KEPT, 1029), (PURSE, -1029),
        ), ("promised", 1029, ((2, "cup", 1), (2, "tea", 900), (3, "cup", 2), (4, "tea", 99)))))

    def test_a_store_that_has_nothing_makes_no_part(self):
        deed, first = self.order({"tea": 1}, whole=False)
        rows = [
            (first, (None, 7, 0)),
            (self.store_ask(2, {"tea": 1}), (0, None)),
            (self.store_ask(3, {"tea": 1}), (0, None)),
            (self.store_ask(4, {"tea": 1}), (1, None)),
            (self.bank_ask(7), (None, 7)),
        ]
        self.goes(ID, deed, rows, ("done", (
            (RECORD_KEY, ((part(4, "tea", 1, 7),), 7, 7, 0, 0)), (free(4, "tea"), -1), (held(4, "tea"), 1),
            (KEPT, 7), (PURSE, -7),
        ), ("promised", 7, ((4, "tea", 1),))))

    def test_four_items(self):
        items = {"ace": 1, "cup": 2, "pot": 3, "tea": 4}
        deed, first = self.order(items)
        rows = [(first, (None, 1, 10, 100, 1000, 0)), (self.store_ask(2, items), (1, 2, 3, 4) + (None,) * 4),
                (self.bank_ask(4321), (None, 4321))]
        parts = (part(2, "ace", 1, 1), part(2, "cup", 2, 10), part(2, "pot", 3, 100), part(2, "tea", 4, 1000))
        self.goes(ID, deed, rows, ("done", (
            (RECORD_KEY, (parts, 4321, 4321, 0, 0)),
            (free(2, "ace"), -1), (free(2, "cup"), -2), (free(2, "pot"), -3), (free(2, "tea"), -4),
            (held(2, "ace"), 1), (held(2, "cup"), 2), (held(2, "pot"), 3), (held(2, "tea"), 4),
            (KEPT, 4321), (PURSE, -4321),
        ), ("promised", 4321, ((2, "ace", 1), (2, "cup", 2), (2, "pot", 3), (2, "tea", 4)))))

    def test_what_can_be_had_is_enough_unless_the_order_is_whole(self):
        for whole in (True, False):
            deed, first = self.order({"cup": 2, "tea": 2}, whole=whole)
            rows = [
                (first, (None, 10, 1, 0)),
                (self.store_ask(2, {"cup": 2, "tea": 2}), (0, 2, None, None)),
                (self.store_ask(3, {"cup": 2}), (1, None)),
                (self.store_ask(4, {"cup": 1}), (0, None)),
            ]
            if whole:
                self.refuses(ID, deed, rows, "stock")
                continue
            parts = (part(2, "tea", 2, 1), part(3, "cup", 1, 10))
            self.goes(ID, deed, rows + [(self.bank_ask(12), (None, 12))], ("done", (
                (RECORD_KEY, (parts, 12, 12, 0, 0)), (free(2, "tea"), -2), (held(2, "tea"), 2),
                (free(3, "cup"), -1), (held(3, "cup"), 1), (KEPT, 12), (PURSE, -12),
            ), ("promised", 12, ((2, "tea", 2), (3, "cup", 1)))))

    def test_nothing_got_at_all(self):
        for whole in (True, False):
            deed, first = self.order({"tea": 2}, whole=whole)
            rows = [(first, (None, 30, 0))] + [(self.store_ask(store, {"tea": 2}), (0, None)) for store in (2, 3, 4)]
            self.refuses(ID, deed, rows, "stock")

    def test_tax(self):
        deed, first = self.order({"tea": 3})
        for rate, total in ((1, 99), (11, 100), (500, 148), (999, 197)):
            rows = [(first, (None, 33, rate)), (self.store_ask(2, {"tea": 3}), (3, None)),
                    (self.bank_ask(total), (None, total))]
            self.goes(ID, deed, rows, ("done", (
                (RECORD_KEY, ((part(2, "tea", 3, 33),), 99, total, 0, 0)), (free(2, "tea"), -3),
                (held(2, "tea"), 3), (KEPT, total), (PURSE, -total),
            ), ("promised", total, ((2, "tea", 3),))))

    def test_too_few_coins(self):
        deed, first = self.order({"tea": 2})
        for answer in (0, 1, 59):
            rows = [(first, (None, 30, 0)), (self.store_ask(2, {"tea": 2}), (2, None)),
                    (self.bank_ask(60), (None, answer))]
            self.refuses(ID, deed, rows, "coins")

    def test_what_costs_nothing_asks_for_no_coins(self):
        deed, first = self.order({"tea": 2})
        rows = [(first, (None, 0, 999)), (self.store_ask(2, {"tea": 2}), (2, None))]
        self.goes(ID, deed, rows, ("done", (
            (RECORD_KEY, ((part(2, "tea", 2, 0),), 0, 0, 0, 0)), (free(2, "tea"), -2), (held(2, "tea"), 2),
        ), ("promised", 0, ((2, "tea", 2),))))

    def test_the_greatest_price(self):
        deed, first = self.order({"tea": 999})
        total = 999 * 99999 + 999 * 99999 * 999 // 1000
        rows = [(first, (None, 99999, 999)), (self.store_ask(2, {"tea": 999}), (999, None)),
                (self.bank_ask(total), (None, total))]
        self.goes(ID, deed, rows, ("done", (
            (RECORD_KEY, ((part(2, "tea", 999, 99999),), 999 * 99999, total, 0, 0)), (free(2, "tea"), -999),
            (held(2, "tea"), 999), (KEPT, total), (PURSE, -total),
        ), ("promised", total, ((2, "tea", 999),))))


class CouponTest(OrderCase):

    def test_a_coupon_takes_off_coins_and_is_spent(self):
        deed, first = self.order({"tea": 2}, coupon="gift")
        for coins, total in ((0, 90), (10, 75), (59, 1)):
            rows = [(first, (("unused", coins), None, 30, 500)), (self.store_ask(2, {"tea": 2}), (2, None)),
                    (self.bank_ask(total), (None, total))]
            self.goes(ID, deed, rows, ("done", (
                (GIFT, ("spent", 7, 5)), (RECORD_KEY, ((part(2, "tea", 2, 30),), 60, total, 0, 0)),
                (free(2, "tea"), -2), (held(2, "tea"), 2), (KEPT, total), (PURSE, -total),
            ), ("promised", total, ((2, "tea", 2),))))

    def test_a_coupon_that_pays_all(self):
        deed, first = self.order({"tea": 2}, coupon="gift")
        for coins in (60, 61, 99999):
            rows = [(first, (("unused", coins), None, 30, 500)), (self.store_ask(2, {"tea": 2}), (2, None))]
            self.goes(ID, deed, rows, ("done", (
                (GIFT, ("spent", 7, 5)), (RECORD_KEY, ((part(2, "tea", 2, 30),), 60, 0, 0, 0)),
                (free(2, "tea"), -2), (held(2, "tea"), 2),
            ), ("promised", 0, ((2, "tea", 2),))))

    def test_no_coupon_and_a_spent_one(self):
        deed, first = self.order({"tea": 2}, coupon="gift")
        for value in (None, ("spent", 7, 4), ("spent", 1, 1)):
            self.refuses(ID, deed, [(first, (value, None, 30, 0))], "coupon")


class SeveralRefusalsTest(OrderCase):

    def test_price_comes_first(self):
        for prices in ((None, None), (None, 5), (5, None)):
            for coupon in (None, ("spent", 7, 4), ("unused", 5)):
                deed, first = self.order({"cup": 1, "tea": 2}, coupon="gift")
                self.refuses(ID, deed, [(first, (coupon, None) + prices + (0,))], "price")
            deed, first = self.order({"cup": 1, "tea": 2})
            self.refuses(ID, deed, [(first, (None,) + prices + (0,))], "price")

    def test_stock_comes_ahead_of_coins(self):
        deed, first = self.order({"tea": 2}, coupon="gift")
        rows = [(first, (("unused", 1), None, 30, 0))]
        rows += [(self.store_ask(store, {"tea": 2}), (0, None)) for store in (2, 3, 4)]
        self.refuses(ID, deed, rows, "stock")


class LaterCase(ScriptCase):

    def first(self, mode="own"):
        return ask(1, (RECORD_KEY, mode))

    def refuses_at_once(self, deed_id, deed, record, word):
        self.refuses(deed_id, deed, [(self.first(), (record,))], word)


class SendTest(LaterCase):

    def test_all_of_an_order(self):
        record = ((part(2, "tea", 2, 30),), 60, 55, 0, 0)
        rows = [(self.first(), (record,)), (ask(2, (held(2, "tea"), "add"), (out(2, "tea"), "add")), (None, None)),
                (ask(5, (KEPT, "add"), (TILL, "add")), (None, None))]
        self.goes((0, 8), ("send", ID, 2), rows, ("done", (
            (RECORD_KEY, ((part(2, "tea", 2, 30, "sent"),), 60, 55, 55, 0)), (held(2, "tea"), -2), (out(2, "tea"), 2),
            (KEPT, -55), (TILL, 55),
        ), ("sent", (("tea", 2),), 55)))

    def test_several_parts_of_one_store(self):
        parts = (part(2, "cup", 1, 10), part(3, "cup", 2, 10), part(3, "tea", 5, 1), part(4, "tea", 1, 1))
        sent = (part(2, "cup", 1, 10), part(3, "cup", 2, 10, "sent"), part(3, "tea", 5, 1, "sent"),
                part(4, "tea", 1, 1))
        adds = ask(3, (held(3, "cup"), "add"), (held(3, "tea"), "add"), (out(3, "cup"), "add"),
                   (out(3, "tea"), "add"))
        rows = [(self.first(), ((parts, 36, 100, 0, 0),)), (adds, (None,) * 4),
                (ask(5, (KEPT, "add"), (TILL, "add")), (None, None))]
        self.goes((0, 8), ("send", ID, 3), rows, ("done", (
            (RECORD_KEY, (sent, 36, 100, 69, 0)), (held(3, "cup"), -2), (held(3, "tea"), -5), (out(3, "cup"), 2),
            (out(3, "tea"), 5), (KEPT, -69), (TILL, 69),
        ), ("sent", (("cup", 2), ("tea", 5)), 69)))

    def test_the_fee_is_the_share_of_all_sent_parts_less_what_was_charged(self):
        parts = (part(2, "cup", 1, 1, "sent"), part(3, "cup", 1, 1), part(4, "cup", 1, 1, "freed"))
        sent = (parts[0], part(3, "cup", 1, 1, "sent"), parts[2])
        rows = [(self.first(), ((parts, 3, 100, 33, 0),)),
                (ask(3, (held(3, "cup"), "add"), (out(3, "cup"), "add")), (None, None)),
                (ask(5, (KEPT, "add"), (TILL, "add")), (None, None))]
        self.goes((0, 8), ("send", ID, 3), rows, ("done", (
            (RECORD_KEY, (sent, 3, 100, 66, 0)), (held(3, "cup"), -1), (out(3, "cup"), 1), (KEPT, -33), (TILL, 33),
        ), ("sent", (("cup", 1),), 33)))

    def test_no_fee_no_bank(self):
        for parts, value, total in (
                ((part(2, "tea", 2, 0),), 0, 0), ((part(2, "tea", 2, 30),), 60, 0),
                ((part(2, "tea", 1, 1), part(3, "tea", 99, 1)), 100, 50)):
            sent = (parts[0][:4] + ("sent", 0),) + parts[1:]
            count = parts[0][2]
            rows = [(self.first(), ((parts, value, total, 0, 0),)),
                    (ask(2, (held(2, "tea"), "add"), (out(2, "tea"), "add")), (None, None))]
            self.goes((0, 8), ("send", ID, 2), rows, ("done", (
                (RECORD_KEY, (sent, value, total, 0, 0)), (held(2, "tea"), -count), (out(2, "tea"), count),
            ), ("sent", (("tea", count),), 0)))

    def test_what_was_given_stays(self):
        parts = (part(2, "tea", 1, 10, "sent", 1), part(3, "tea", 1, 10))
        sent = (parts[0], part(3, "tea", 1, 10, "sent"))
        rows = [(self.first(), ((parts, 20, 20, 10, 10),)),
                (ask(3, (held(3, "tea"), "add"), (out(3, "tea"), "add")), (None, None)),
                (ask(5, (KEPT, "add"), (TILL, "add")), (None, None))]
        self.goes((0, 8), ("send", ID, 3), rows, ("done", (
            (RECORD_KEY, (sent, 20, 20, 20, 10)), (held(3, "tea"), -1), (out(3, "tea"), 1), (KEPT, -10), (TILL, 10),
        ), ("sent", (("tea", 1),), 10)))

    def test_refusals(self):
        self.refuses_at_once((0, 8), ("send", ID, 2), None, "order")
        for parts in ((part(2, "tea", 2, 30, "sent"),), (part(2, "tea", 2, 30, "freed"),), (part(3, "tea", 2, 30),)):
            self.refuses_at_once((0, 8), ("send", ID, 2), (parts, 60, 60, 0, 0), "nothing")


class CancelTest(LaterCase):

    def test_all_of_an_order(self):
        record = ((part(2, "tea", 2, 30),), 60, 55, 0, 0)
        rows = [(self.first(), (record,)), (ask(2, (free(2, "tea"), "add"), (held(2, "tea"), "add")), (None, None)),
                (ask(5, (KEPT, "add"), (PURSE, "add")), (None, None))]
        self.goes((7, 8), ("cancel", ID), rows, ("done", (
            (RECORD_KEY, ((part(2, "tea", 2, 30, "freed"),), 60, 55, 0, 0)), (free(2, "tea"), 2),
            (held(2, "tea"), -2), (KEPT, -55), (PURSE, 55),
        ), ("freed", 55)))

    def test_what_is_left_at_several_stores(self):
        parts = (part(2, "cup", 1, 10), part(2, "tea", 4, 1), part(3, "cup", 2, 10, "sent", 1), part(4, "tea", 6, 1))
        freed = (part(2, "cup", 1, 10, "freed"), part(2, "tea", 4, 1, "freed"), part(3, "cup", 2, 10, "sent", 1),
                 part(4, "tea", 6, 1, "freed"))
        rows = [
            (self.first(), ((parts, 40, 44, 22, 11),)),
            (ask(2, (free(2, "cup"), "add"), (free(2, "tea"), "add"), (held(2, "cup"), "add"),
                 (held(2, "tea"), "add")), (None,) * 4),
            (ask(4, (free(4, "tea"), "add"), (held(4, "tea"), "add")), (None, None)),
            (ask(5, (KEPT, "add"), (PURSE, "add")), (None, None)),
        ]
        self.goes((7, 8), ("cancel", ID), rows, ("done", (
            (RECORD_KEY, (freed, 40, 44, 22, 11)),
            (free(2, "cup"), 1), (free(2, "tea"), 4), (held(2, "cup"), -1), (held(2, "tea"), -4),
            (free(4, "tea"), 6), (held(4, "tea"), -6), (KEPT, -22), (PURSE, 22),
        ), ("freed", 22)))

    def test_no_rest_no_bank(self):
        for parts, total, charged in (((part(2, "tea", 2, 30),), 0, 0),
                                      ((part(2, "tea", 2, 0), part(3, "cup", 1, 60, "sent")), 60, 60)):
            rows = [(self.first(), ((parts, 60, total, charged, 0),)),
                    (ask(2, (free(2, "tea"), "add"), (held(2, "tea"), "add")), (None, None))]
            freed = (parts[0][:4] + ("freed", 0),) + parts[1:]
            self.goes((7, 8), ("cancel", ID), rows, ("done", (
                (RECORD_KEY, (freed, 60, total, charged, 0)), (free(2, "tea"), 2), (held(2, "tea"), -2),
            ), ("freed", 0)))

    def test_refusals(self):
        self.refuses_at_once((7, 8), ("cancel", ID), None, "order")
        for parts in ((part(2, "tea", 2, 30, "sent"),), (part(2, "tea", 2, 30, "freed"),),
                      (part(2, "tea", 2, 30, "sent", 2), part(3, "tea", 2, 30, "freed"))):
            self.refuses_at_once((7, 8), ("cancel", ID), (parts, 60, 60, 60, 0), "nothing")


class BackTest(LaterCase):

    def goods(self, store):
        return ask(store, (free(store, "tea"), "add"), (out(store, "tea"), "add"))

    def coins(self):
        return ask(5, (PURSE, "add"), (TILL, "add"))

    def test_all_of_an_order(self):
        record = ((part(2, "tea", 2, 30, "sent"),), 60, 55, 55, 0)
        rows = [(self.first(), (record,)), (self.goods(2), (None, None)), (self.coins(), (None, None))]
        self.goes((7, 8), ("back", ID, 2, "tea", 2), rows, ("done", (
            (RECORD_KEY, ((part(2, "tea", 2, 30, "sent", 2),), 60, 55, 55, 55)), (free(2, "tea"), 2),
            (out(2, "tea"), -2), (PURSE, 55), (TILL, -55),
        ), ("given", 55)))

    def test_a_piece_at_another_store(self):
        record = ((part(2, "tea", 3, 1, "sent"),), 3, 100, 100, 0)
        rows = [(self.first(), (record,)), (self.goods(4), (None, None)), (self.coins(), (None, None))]
        self.goes((7, 8), ("back", ID, 4, "tea", 1), rows, ("done", (
            (RECORD_KEY, ((part(2, "tea", 3, 1, "sent", 1),), 3, 100, 100, 33)), (free(4, "tea"), 1),
            (out(4, "tea"), -1), (PURSE, 33), (TILL, -33),
        ), ("given", 33)))

    def test_the_sum_is_the_share_of_all_that_came_back_less_what_was_given(self):
        record = ((part(2, "cup", 1, 1, "sent", 1), part(2, "tea", 2, 1, "sent", 1)), 3, 100, 100, 66)
        rows = [(self.first(), (record,)), (self.goods(2), (None, None)), (self.coins(), (None, None))]
        self.goes((7, 8), ("back", ID, 2, "tea", 1), rows, ("done", (
            (RECORD_KEY, ((part(2, "cup", 1, 1, "sent", 1), part(2, "tea", 2, 1, "sent", 2)), 3, 100, 100, 100)),
            (free(2, "tea"), 1), (out(2, "tea"), -1), (PURSE, 34), (TILL, -34),
        ), ("given", 34)))

    def test_the_pieces_are_counted_on_the_sent_parts_in_sequence(self):
        parts = (part(2, "cup", 5, 1, "sent"), part(2, "tea", 3, 1, "sent", 1), part(3, "tea", 4, 1, "sent"),
                 part(4, "tea", 8, 1, "sent"))
        for count, backs in ((1, (2, 0, 0)), (2, (3, 0, 0)), (3, (3, 1, 0)), (6, (3, 4, 0)), (7, (3, 4, 1)),
                             (14, (3, 4, 8))):
            after = (parts[0],) + tuple(before[:5] + (back,) for before, back in zip(parts[1:], backs))
            rows = [(self.first(), ((parts, 20, 20, 20, 1),)), (self.goods(3), (None, None)),
                    (self.coins(), (None, None))]
            self.goes((7, 8), ("back", ID, 3, "tea", count), rows, ("done", (
                (RECORD_KEY, (after, 20, 20, 20, 1 + count)), (free(3, "tea"), count), (out(3, "tea"), -count),
                (PURSE, count), (TILL, -count),
            ), ("given", count)))

    def test_held_and_freed_parts_are_passed_over(self):
        parts = (part(2, "tea", 3, 1, "freed"), part(3, "tea", 4, 1), part(4, "tea", 3, 1, "sent"))
        rows = [(self.first(), ((parts, 10, 10, 3, 0),)), (self.goods(2), (None, None)), (self.coins(), (None, None))]
        self.goes((7, 8), ("back", ID, 2, "tea", 3), rows, ("done", (
            (RECORD_KEY, (parts[:2] + (part(4, "tea", 3, 1, "sent", 3),), 10, 10, 3, 3)), (free(2, "tea"), 3),
            (out(2, "tea"), -3), (PURSE, 3), (TILL, -3),
        ), ("given", 3)))

    def test_no_sum_no_bank(self):
        for price_told, value, total in ((0, 0, 0), (30, 60, 0), (1, 100, 50)):
            rows = [(self.first(), (((part(2, "tea", 2, price_told, "sent"),), value, total, total, 0),)),
                    (self.goods(2), (None, None))]
            self.goes((7, 8), ("back", ID, 2, "tea", 1), rows, ("done", (
                (RECORD_KEY, ((part(2, "tea", 2, price_told, "sent", 1),), value, total, total, 0)),
                (free(2, "tea"), 1), (out(2, "tea"), -1),
            ), ("given", 0)))

    def test_refusals(self):
        self.refuses_at_once((7, 8), ("back", ID, 2, "tea", 1), None, "order")
        for parts in ((part(2, "tea", 2, 30),), (part(2, "tea", 2, 30, "freed"),), (part(2, "cup", 2, 30, "sent"),),
                      (part(2, "tea", 2, 30, "sent", 2),)):
            self.refuses_at_once((7, 8), ("back", ID, 2, "tea", 1), (parts, 60, 60, 60, 0), "nothing")

    def test_more_than_all_parts_have_together(self):
        parts = (part(2, "tea", 2, 1, "sent", 1), part(3, "tea", 3, 1, "sent"), part(4, "tea", 9, 1))
        for count in (5, 6, 999):
            self.refuses_at_once((7, 8), ("back", ID, 2, "tea", count), (parts, 14, 14, 5, 1), "nothing")


if __name__ == "__main__":
    unittest.main()
