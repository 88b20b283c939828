"""A shop written down once more, without asks and scripts, to compare the program with; and deeds at random."""

import collections

ITEMS = ("ace", "cup", "tea")
COUPONS = ("gift", "bonus")
CLERK_WORDS = ("price", "rate", "coupon", "stock", "move", "arrive", "send", "count")


class Part:

    def __init__(self, store, item, count, price):
        self.store, self.item, self.count, self.price = store, item, count, price
        self.state, self.back = "held", 0

    def told(self):
        return (self.store, self.item, self.count, self.price, self.state, self.back)


class Order:

    def __init__(self, parts, value, total):
        self.parts, self.value, self.total = parts, value, total
        self.charged, self.given = 0, 0

    def told(self):
        return (tuple([part.told() for part in self.parts]), self.value, self.total, self.charged, self.given)

    def part_of_total(self, goods):
        return self.total * goods // self.value if self.value else 0


class Shop:

    def __init__(self):
        self.values = collections.defaultdict(int)
        self.prices, self.coupons, self.roads, self.orders = {}, {}, {}, {}

    def do(self, deed_id, deed):
        word = deed[0]
        if word == "look":
            allowed = deed_id[0] in (0, deed[1][0])
        elif word in ("cancel", "back"):
            allowed = deed_id[0] == deed[1][0] != 0
        else:
            allowed = (word in CLERK_WORDS) == (deed_id[0] == 0)
        if not allowed:
            return ("refused", "right")
        return getattr(self, "do_" + word)(deed_id, *deed[1:])

    def do_price(self, deed_id, item, coins):
        self.prices[item] = coins
        return ("done",)

    def do_rate(self, deed_id, rate):
        self.values[1, "rate"] = rate
        return ("done",)

    def do_coupon(self, deed_id, word, coins):
        if word in self.coupons:
            return ("refused", "coupon")
        self.coupons[word] = ("unused", coins)
        return ("done",)

    def do_stock(self, deed_id, store, item, count):
        self.values[store, "came", item] += count
        self.values[store, "free", item] += count
        return ("done",)

    def do_move(self, deed_id, store, item, count):
        if self.values[store, "free", item] < count:
            return ("refused", "stock")
        self.values[store, "free", item] -= count
        self.values[1, "away", item] += count
        self.roads[deed_id] = (item, count)
        return ("done",)

    def do_arrive(self, deed_id, move_id, store, item):
        if self.roads.get(move_id, (None,))[0] != item:
            return ("refused", "road")
        count = self.roads.pop(move_id)[1]
        self.values[1, "away", item] -= count
        self.values[store, "free", item] += count
        return ("done",)

    def do_count(self, deed_id, item):
        shelves = [(self.values[store, "free", item], self.values[store, "held", item]) for store in (2, 3, 4)]
        return ("counts", self.values[1, "away", item], tuple(shelves))

    def do_pay(self, deed_id, coins):
        self.values[5, "paid"] += coins
        self.values[5, "purse", deed_id[0]] += coins
        return ("done",)

    def do_draw(self, deed_id, coins):
        if self.values[5, "purse", deed_id[0]] < coins:
            return ("refused", "coins")
        self.values[5, "paid"] -= coins
        self.values[5, "purse", deed_id[0]] -= coins
        return ("done",)

    def do_purse(self, deed_id):
        return ("coins", self.values[5, "purse", deed_id[0]])

    def do_look(self, deed_id, order_id):
        if order_id not in self.orders:
            return ("refused", "order")
        return ("shows", self.orders[order_id].told())

    def do_order(self, deed_id, lines, whole, coupon):
        if any(item not in self.prices for item, _ in lines):
            return ("refused", "price")
        if coupon is not None and self.coupons.get(coupon, ("none",))[0] != "unused":
            return ("refused", "coupon")
        parts = []
        for item, count in lines:
            for store in (2, 3, 4):
                got = min(count, self.values[store, "free", item])
                count -= got
                if got:
                    parts.append(Part(store, item, got, self.prices[item]))
            if whole and count:
                return ("refused", "stock")
        if not parts:
            return ("refused", "stock")
        parts.sort(key=lambda part: (part.store, part.item))
        value = sum(part.count * part.price for part in parts)
        net = max(0, value - (self.coupons[coupon][1] if coupon else 0))
        total = net + net * self.values[1, "rate"] // 1000
        if self.values[5, "purse", deed_id[0]] < total:
            return ("refused", "coins")
        self.values[5, "purse", deed_id[0]] -= total
        self.values[5, "kept"] += total
        if coupon:
            self.coupons[coupon] = ("spent",) + deed_id
        for part in parts:
            self.values[part.store, "free", part.item] -= part.count
            self.values[part.store, "held", part.item] += part.count
        self.orders[deed_id] = Order(parts, value, total)
        return ("promised", total, tuple([(part.store, part.item, part.count) for part in parts]))

    def do_send(self, deed_id, order_id, store):
        order = self.orders.get(order_id)
        if order is None:
            return ("refused", "order")
        ours = [part for part in order.parts if part.store == store and part.state == "held"]
        if not ours:
            return ("refused", "nothing")
        for part in ours:
            part.state = "sent"
            self.values[store, "held", part.item] -= part.count
            self.values[store, "out", part.item] += part.count
        goods = sum(part.count * part.price for part in order.parts if part.state == "sent")
        fee = order.part_of_total(goods) - order.charged
        order.charged += fee
        self.values[5, "kept"] -= fee
        self.values[5, "till"] += fee
        return ("sent", tuple([(part.item, part.count) for part in ours]), fee)

    def do_cancel(self, deed_id, order_id):
        order = self.orders.get(order_id)
        if order is None:
            return ("refused", "order")
        ours = [part for part in order.parts if part.state == "held"]
        if not ours:
            return ("refused", "nothing")
        for part in ours:
            part.state = "freed"
            self.values[part.store, "held", part.item] -= part.count
            self.values[part.store, "free", part.item] += part.count
        rest = order.total - order.charged
        self.values[5, "kept"] -= rest
        self.values[5, "purse", order_id[0]] += rest
        return ("freed", rest)

    def do_back(self, deed_id, order_id, store, item, count):
        order = self.orders.get(order_id)
        if order is None:
            return ("refused", "order")
        ours = [part for part in order.parts if part.state == "sent" and part.item == item]
        if sum(part.count - part.back for part in ours) < count:
            return ("refused", "nothing")
        self.values[store, "free", item] += count
        self.values[store, "out", item] -= count
        for part in ours:
            here = min(count, part.count - part.back)
            part.back += here
            count -= here
        refund = order.part_of_total(sum(part.back * part.price for part in order.parts)) - order.given
        order.given += refund
        self.values[5, "purse", order_id[0]] += refund
        self.values[5, "till"] -= refund
        return ("given", refund)

    def pairs(self):
        found = {key: value for key, value in self.values.items() if value != 0}
        found.update({(1, "price", item): coins for item, coins in self.prices.items()})
        found.update({(1, "coupon", word): value for word, value in self.coupons.items()})
        found.update({(1, "road") + move_id: value for move_id, value in self.roads.items()})
        found.update({(1, "order") + order_id: order.told() for order_id, order in self.orders.items()})
        return tuple(sorted(found.items()))


def some_deed(random, shop):
    """A customer and a deed, most often one that fits what the shop has done."""
    customer = random.choice((0, 0, 1, 1, 2))
    item, store, count = random.choice(ITEMS), random.choice((2, 3, 4)), random.choice((1, 1, 2, 3, 5))
    coins, (move_id, road) = random.choice((0, 1, 7, 10, 33)), random.choice([*shop.roads.items(), ((0, 1), ("tea", 1))])
    order_ids = [one for one in shop.orders if customer in (0, one[0]) or random.random() < 0.05]
    order_id = random.choice(order_ids if order_ids and random.random() < 0.95 else [(1, 1), (2, 1)])
    if order_id in shop.orders and random.random() < 0.8:
        part = random.choice(shop.orders[order_id].parts)
        item, store = part.item, part.store
    lines = tuple([(name, random.choice((1, 2, 3, 6))) for name in ITEMS if random.random() < 0.5]) or ((item, count),)
    coupon = random.choice((None, None) + COUPONS)
    clerk = (("price", item, coins), ("rate", random.choice((0, 70, 999))), ("coupon", coupon or "gift", coins),
             ("stock", store, item, count), ("stock", store, item, 5), ("move", store, item, count),
             ("move", store, item, 1), ("arrive", move_id, store, road[0]), ("arrive", move_id, store, item),
             ("count", item), ("look", order_id))
    clerk += (("send", order_id, store),) * 6
    buyers = (("pay", 50 + coins), ("draw", 1 + coins), ("cancel", order_id), ("purse",), ("look", order_id))
    buyers += (("order", lines, True, coupon), ("order", lines, False, coupon), ("order", lines, False, None))
    buyers += (("back", order_id, store, item, random.choice((1, 1, 2, 4))),) * 4
    if random.random() < 0.05:
        return customer, random.choice(clerk + buyers)
    return customer, random.choice(clerk if customer == 0 else buyers)


def some_deeds(random, many):
    """So many pairs (deed_id, deed), the first ones such that there is most often something to order."""
    first = [(0, ("price", item, random.choice((0, 3, 10, 25)))) for item in ITEMS if random.random() < 0.9]
    first += [(0, ("stock", random.choice((2, 3, 4)), item, random.choice((1, 3, 6)))) for item in ITEMS]
    first += [(customer, ("pay", random.choice((5, 60, 400)))) for customer in (1, 2)]
    first += [(customer, ("order", (("cup", 2), ("tea", 3)), False, None)) for customer in (1, 2)]
    shop, rows, numbers = Shop(), [], collections.Counter()
    while len(rows) < many:
        customer, deed = first[len(rows)] if len(rows) < len(first) else some_deed(random, shop)
        numbers[customer] += 1
        rows.append(((customer, numbers[customer]), deed))
        shop.do(*rows[-1])
    return rows
