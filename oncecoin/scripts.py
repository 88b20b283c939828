"""How deeds are carried out: which houses a deed asks, and what it changes there in the end."""

from oncecoin.forms import BANK, FIRST_STORE, LAST_STORE, OFFICE
from oncecoin.orders import order_key, order_step
from oncecoin.steps import add, after_adds, done, next_ask, own, refused, see, take

CLERK = 0
CLERK_DEEDS = ("price", "rate", "coupon", "stock", "move", "arrive", "send", "count")
PAID = (5, "paid")


def _price(deed_id, deed, known):
    _, item, coins = deed
    key = (OFFICE, "price", item)
    step = next_ask([own(key)], known)
    if step is not None:
        return step
    return done([(key, coins)], ("done",))


def _rate(deed_id, deed, known):
    key = (OFFICE, "rate")
    step = next_ask([own(key)], known)
    if step is not None:
        return step
    return done([(key, deed[1])], ("done",))


def _coupon(deed_id, deed, known):
    _, word, coins = deed
    key = (OFFICE, "coupon", word)
    step = next_ask([own(key)], known)
    if step is not None:
        return step
    if known[key] is not None:
        return refused("coupon")
    return done([(key, ("unused", coins))], ("done",))


def _stock(deed_id, deed, known):
    _, store, item, count = deed
    changes = [((store, "came", item), count), ((store, "free", item), count)]
    return after_adds(changes, [], ("done",), known)


def _move(deed_id, deed, known):
    _, store, item, count = deed
    road = (OFFICE, "road") + deed_id
    away = (OFFICE, "away", item)
    free = (store, "free", item)
    step = next_ask([own(road), add(away), take(free, count)], known)
    if step is not None:
        return step
    if known[free] < count:
        return refused("stock")
    return done([(road, (item, count)), (away, count), (free, -count)], ("done",))


def _arrive(deed_id, deed, known):
    _, move_id, store, item = deed
    road = (OFFICE, "road") + move_id
    away = (OFFICE, "away", item)
    step = next_ask([own(road), add(away)], known)
    if step is not None:
        return step
    if known[road] is None or known[road][0] != item:
        return refused("road")
    count = known[road][1]
    return after_adds([(away, -count), ((store, "free", item), count)], [(road, None)], ("done",), known)


def _count(deed_id, deed, known):
    item = deed[1]
    away = (OFFICE, "away", item)
    shelves = [((store, "free", item), (store, "held", item)) for store in range(FIRST_STORE, LAST_STORE + 1)]
    step = next_ask([see(away)] + [see(key) for shelf in shelves for key in shelf], known)
    if step is not None:
        return step
    return done([], ("counts", known[away], tuple([(known[free], known[held]) for free, held in shelves])))


def _pay(deed_id, deed, known):
    coins = deed[1]
    return after_adds([(PAID, coins), ((BANK, "purse", deed_id[0]), coins)], [], ("done",), known)


def _draw(deed_id, deed, known):
    coins = deed[1]
    purse = (BANK, "purse", deed_id[0])
    step = next_ask([add(PAID), take(purse, coins)], known)
    if step is not None:
        return step
    if known[purse] < coins:
        return refused("coins")
    return done([(PAID, -coins), (purse, -coins)], ("done",))


def _purse(deed_id, deed, known):
    purse = (BANK, "purse", deed_id[0])
    step = next_ask([see(purse)], known)
    if step is not None:
        return step
    return done([], ("coins", known[purse]))


def _look(deed_id, deed, known):
    key = order_key(deed[1])
    step = next_ask([see(key)], known)
    if step is not None:
        return step
    if known[key] is None:
        return refused("order")
    return done([], ("shows", known[key]))


# By the first part of a deed; the other deeds are those of order_step.
SCRIPTS = {
    "price": _price,
    "rate": _rate,
    "coupon": _coupon,
    "stock": _stock,
    "move": _move,
    "arrive": _arrive,
    "count": _count,
    "pay": _pay,
    "draw": _draw,
    "purse": _purse,
    "look": _look,
}


def _has_right(customer, deed):
    """Whether this customer may do such a deed at all."""
    word = deed[0]
    if word == "look":
        return customer in (CLERK, deed[1][0])
    if word in CLERK_DEEDS:
        return customer == CLERK
    if word in ("cancel", "back") and customer != deed[1][0]:
        return False
    return customer != CLERK


def _step(deed_id, deed, known):
    """The next ask, or the end, when this is known: a dict from keys to answers."""
    if deed[0] not in SCRIPTS:
        return order_step(deed_id, deed, known)
    script = SCRIPTS[deed[0]]
    return script(deed_id, deed, known)


def next_step(deed_id, deed, told):
    """The next ask of the deed, or its end, when these answers to its earlier asks were told."""
    if not _has_right(deed_id[0], deed):
        return refused("right")
    known = {}
    step = _step(deed_id, deed, known)
    for answers in told:
        # What was told does not name its keys: they are those of the ask that stood there then.
        for request, answer in zip(step[2], answers):
            known[request[0]] = answer
        step = _step(deed_id, deed, known)
    return step
