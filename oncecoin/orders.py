"""The scripts of order, send, cancel and back."""

from oncecoin.forms import BANK, FIRST_STORE, LAST_STORE, OFFICE
from oncecoin.money import share, total_of
from oncecoin.records import goods_back, goods_of, goods_sent, held_parts, pieces_out, with_back, with_state
from oncecoin.steps import add, after_adds, done, moving, next_ask, own, refused, see, take

RATE = (1, "rate")
KEPT = (5, "kept")
TILL = (5, "till")


def order_key(order_id):
    customer, number = order_id
    return (OFFICE, "order", customer, number)


def _coupon_key(word):
    return (OFFICE, "coupon", word)


def _price_key(item):
    return (OFFICE, "price", item)


def _free_key(store, item):
    return (store, "free", item)


def _held_key(store, item):
    return (store, "held", item)


def _out_key(store, item):
    return (store, "out", item)


def _purse_key(customer):
    return (BANK, "purse", customer)


def _order(deed_id, deed, known):
    _, lines, whole, coupon = deed
    step = next_ask(_office_requests(deed_id, lines, coupon), known)
    if step is not None:
        return step
    if None in [known[_price_key(item)] for item, _ in lines]:
        return refused("price")
    discount = _discount(coupon, known)
    if discount is None:
        return refused("coupon")
    step, pieces, needed = _gathered(lines, known)
    if step is not None:
        return step
    if len(pieces) == 0 or (whole and len(needed) > 0):
        return refused("stock")
    return _promise(deed_id, pieces, coupon, discount, known)


def _office_requests(deed_id, lines, coupon):
    requests = [own(order_key(deed_id)), see(RATE)] + [see(_price_key(item)) for item, _ in lines]
    if coupon is not None:
        requests.append(own(_coupon_key(coupon)))
    return requests


def _discount(coupon, known):
    """The coins that the coupon takes off (0 without one); None if it cannot be used."""
    if coupon is None:
        return 0
    value = known[_coupon_key(coupon)]
    if value is None or value[0] != "unused":
        return None
    return value[1]


def _gathered(lines, known):
    """The next ask at a store (None if no store is left to be asked), the pieces got so far, and what is still
    needed, a dict from items to counts."""
    needed = {item: count for item, count in lines}
    pieces = []
    for store in range(FIRST_STORE, LAST_STORE + 1):
        step = next_ask(_store_requests(store, needed), known)
        if step is not None:
            return step, pieces, needed
        got = {item: known[_free_key(store, item)] for item in needed}
        pieces.extend([(store, item, got[item]) for item in needed if got[item] > 0])
        needed = {item: needed[item] - got[item] for item in needed if got[item] < needed[item]}
    return None, pieces, needed


def _store_requests(store, needed):
    takes = [take(_free_key(store, item), needed[item]) for item in needed]
    return takes + [add(_held_key(store, item)) for item in needed]


def _promise(deed_id, pieces, coupon, discount, known):
    """Takes the price of the pieces out of the purse, and promises them."""
    parts = tuple([(store, item, count, known[_price_key(item)], "held", 0) for store, item, count in pieces])
    value = goods_of(parts)
    total = total_of(value, discount, known[RATE])
    purse = _purse_key(deed_id[0])
    if total > 0:
        step = next_ask([add(KEPT), take(purse, total)], known)
        if step is not None:
            return step
        if known[purse] < total:
            return refused("coins")
    writes = [(order_key(deed_id), (parts, value, total, 0, 0))] + moving(purse, KEPT, total)
    if coupon is not None:
        writes.append((_coupon_key(coupon), ("spent",) + deed_id))
    for store, item, count in pieces:
        writes.extend(moving(_free_key(store, item), _held_key(store, item), count))
    return done(writes, ("promised", total, tuple(pieces)))


def _send(deed, record, known):
    _, order_id, store = deed
    parts, value, total, charged, given = record
    ours = [part for part in held_parts(parts) if part[0] == store]
    if len(ours) == 0:
        return refused("nothing")
    parts = with_state(parts, ours, "sent")
    fee = share(total, goods_sent(parts), value) - charged
    changes = moving(KEPT, TILL, fee)
    for _, item, count, _, _, _ in ours:
        changes.extend(moving(_held_key(store, item), _out_key(store, item), count))
    written = (order_key(order_id), (parts, value, total, charged + fee, given))
    pieces = tuple([(item, count) for _, item, count, _, _, _ in ours])
    return after_adds(changes, [written], ("sent", pieces, fee), known)


def _cancel(deed, record, known):
    order_id = deed[1]
    parts, value, total, charged, given = record
    ours = held_parts(parts)
    if len(ours) == 0:
        return refused("nothing")
    rest = total - charged
    changes = moving(KEPT, _purse_key(order_id[0]), rest)
    for store, item, count, _, _, _ in ours:
        changes.extend(moving(_held_key(store, item), _free_key(store, item), count))
    written = (order_key(order_id), (with_state(parts, ours, "freed"), value, total, charged, given))
    return after_adds(changes, [written], ("freed", rest), known)


def _back(deed, record, known):
    _, order_id, store, item, count = deed
    parts, value, total, charged, given = record
    if pieces_out(parts, item) < count:
        return refused("nothing")
    parts = with_back(parts, item, count)
    refund = share(total, goods_back(parts), value) - given
    changes = moving(_out_key(store, item), _free_key(store, item), count)
    changes.extend(moving(TILL, _purse_key(order_id[0]), refund))
    written = (order_key(order_id), (parts, value, total, charged, given + refund))
    return after_adds(changes, [written], ("given", refund), known)


# Scripts of deeds on an order that was made before.
LATER_SCRIPTS = {"send": _send, "cancel": _cancel, "back": _back}


def order_step(deed_id, deed, known):
    """The next step of a deed order, send, cancel or back."""
    if deed[0] == "order":
        return _order(deed_id, deed, known)
    key = order_key(deed[1])
    step = next_ask([own(key)], known)
    if step is not None:
        return step
    if known[key] is None:
        return refused("order")
    script = LATER_SCRIPTS[deed[0]]
    return script(deed, known[key], known)
