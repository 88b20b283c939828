"""Nets to which things happen at random."""

import random

from oncecoin.audits import effective
from oncecoin.nets import Net

MOST_DEEDS = 40
MOST_EVENTS = 400
ITEMS = ("cup", "tea")

# Enough for several customers to want the same things at once, and not enough for all of them.
START = (
    ((1, "coupon", "gift"), ("unused", 25)), ((1, "price", "cup"), 7), ((1, "price", "tea"), 30), ((1, "rate"), 70),
    ((2, "came", "cup"), 4), ((2, "came", "tea"), 9), ((2, "free", "cup"), 4), ((2, "free", "tea"), 9),
    ((3, "came", "tea"), 6), ((3, "free", "tea"), 5), ((3, "out", "tea"), 1), ((4, "came", "cup"), 3),
    ((4, "free", "cup"), 3), ((5, "paid"), 1500), ((5, "purse", 1), 100), ((5, "purse", 2), 200),
    ((5, "purse", 3), 150), ((5, "purse", 4), 100), ((5, "purse", 5), 250), ((5, "purse", 6), 150),
    ((5, "purse", 7), 150), ((5, "purse", 8), 100), ((5, "purse", 9), 300),
)


def drawn_deed(draw, customer, values):
    """A deed of this customer, most often one that fits these values, pairs of a key and a value."""
    item, store, count = draw.choice(ITEMS), draw.choice((2, 3, 4)), draw.choice((1, 1, 2, 3))
    coins, coupon = draw.choice((0, 7, 25, 60)), draw.choice((None, None, "gift", "bonus"))
    lines = tuple([(name, draw.choice((1, 2, 4))) for name in ITEMS if draw.random() < 0.7]) or ((item, count),)
    if draw.random() < 0.06:
        return draw.choice((("purse",), ("order", lines, True, None), ("rate", coins), ("send", (4, 1), store),
                            ("cancel", (4, 1)), ("back", (4, 1), store, item, count), ("look", (4, 1))))
    orders = [(key[2:], record) for key, record in values if key[1] == "order" and customer in (0, key[2])]
    roads = [(key[2:], record[0]) for key, record in values if key[1] == "road"]
    order_id, (parts, *_) = draw.choice(orders or [((customer or 5, 2), ((), 0))])
    move_id, named = draw.choice(roads or [((0, 3), item)])
    if parts and draw.random() < 0.8:
        store, item = draw.choice(parts)[:2]
    if customer == 0:
        return draw.choice((
            ("price", item, coins), ("rate", coins), ("coupon", "bonus", coins), ("stock", store, item, count + 2),
            ("move", store, item, count), ("count", item), ("look", order_id))
            + (("send", order_id, store),) * 5 * bool(parts) + (("arrive", move_id, store, named),) * (1 + len(roads)))
    if parts and draw.random() < 0.6:
        return draw.choice((("look", order_id), ("cancel", order_id), ("back", order_id, store, item, count),
                            ("back", order_id, store, item, 1)))
    return draw.choice((("pay", 1 + coins), ("draw", 1 + coins), ("purse",), ("look", order_id), ("cancel", order_id),
                        ("order", lines, True, coupon)) + (("order", lines, False, coupon),) * 6)


def event_of(letter):
    """The event that a letter to a house or a desk stands for."""
    sender, _, number, body = letter
    if body[0] == "got":
        return ("got", sender, body[1])
    if sender[0] == "c":
        return ("deed", int(sender[1]), number, body[1])
    return ("letter", sender, number, body)


class Walk:
    """A net, and a way of drawing what happens to it next. The seed tells all of it."""

    def __init__(self, seed):
        self.draw = random.Random(seed)
        self.start = self.draw.choice((START,) * 6 + ((),))
        self.net = Net(self.draw.choice((1, 2, 3)), start=self.start)
        self.left = self.draw.choice((12, 25, MOST_DEEDS))
        buyers = self.draw.sample(range(1, 10), self.draw.choice((2, 4, 9)))
        self.askers = [0] * len(buyers) + buyers
        self.falling = self.draw.choice((0, 0.01, 0.04))
        self.losing = self.draw.choice((0, 0.1, 0.3))
        self.steps = self.draw.choice((300, 900, 1500))
        self.actors = [actor.name for actor in self.net.desks() + self.net.houses()]
        self.names = [f"c{customer}" for customer in range(10)] + self.actors
        self.events = {name: [] for name in self.actors}

    def chance(self, share):
        return self.draw.random() < share

    def cut(self, most):
        return self.draw.randrange(most) if self.chance(0.8) else None

    def ask(self, customer):
        """Lets the customer want a deed, unless it waits or all deeds are drawn."""
        if self.left and self.net.open_deed(customer) is None:
            self.left -= 1
            self.net.ask(customer, drawn_deed(self.draw, customer, effective(self.net)))

    def step(self):
        """One thing happens."""
        net = self.net
        if self.chance(0.2):
            self.ask(self.draw.choice(self.askers))
        if len(net) == 0 or self.chance(0.4):
            net.post(self.draw.choice(self.names))
        if len(net):
            self.move(self.draw.randrange(min(30, len(net))))
        if self.chance(self.falling):
            net.fall(self.draw.choice(self.actors))
        if self.chance(self.falling):
            net.close(self.draw.choice(self.actors), cut=self.cut(2000))
        if self.chance(self.falling / 10):
            net.blackout()

    def move(self, k):
        """Something happens to this letter."""
        kind = self.draw.random()
        if kind < self.losing:
            self.net.lose(k)
        elif kind < self.losing + 0.1:
            self.net.double(k)
        elif kind < self.losing + 0.2:
            self.net.put_off(k)
        else:
            receiver = list(self.net)[k][1]
            if receiver in self.events:
                self.events[receiver].append(event_of(list(self.net)[k]))
            self.net.deliver(k, cut=self.cut(150) if self.chance(self.falling) else None)

    def all_events(self):
        """By house and desk: the events that steps of this walk brought it."""
        for _ in range(self.steps):
            self.step()
        return {name: events[:MOST_EVENTS] for name, events in self.events.items()}

    def moments(self, every=40):
        """Goes through the walk to its calm end; yields now and then, and in the end."""
        for at in range(self.steps):
            self.step()
            if at % every == 0:
                yield at
        while self.left:
            for _ in range(3):
                self.ask(self.draw.choice(self.askers))
            self.net.calm()
            yield self.left
        self.net.calm()
        yield "end"


def walks(many, first=0):
    for seed in range(first, first + many):
        yield Walk(seed)
