"""What the values of a shop add up to, and where they do not agree."""

from oncecoin.money import share
from oncecoin.records import goods_back, goods_of, goods_sent, held_parts

THINGS = ("came", "free", "held", "out", "away")
COINS = ("paid", "purse", "kept", "till")
NEVER_BELOW = ("free", "held", "away", "purse", "kept", "till")


def things(values, item):
    """How many pieces of the item came, and are free, held, out and away, over all stores."""
    return tuple([sum([value for key, value in values if key[1:] == (word, item)]) for word in THINGS])


def coins(values):
    """The coins that were paid, and those in all purses, kept and in the till."""
    return tuple([sum(_worded(values, word)) for word in COINS])


def promised(values, store, item):
    """How many pieces of the item orders hold at this store."""
    return sum([count for place, count in _promises(values) if place == (store, item)])


def owed(values):
    """The coins that are kept for orders of which something is held."""
    return sum([total - charged for parts, _, total, charged, _ in _worded(values, "order")
                if len(held_parts(parts)) > 0])


def earned(values):
    """The coins that orders brought into the till, less those that were given back."""
    return sum([charged - given for _, _, _, charged, given in _worded(values, "order")])


def faults(values):
    """The words of what does not agree, in the order in which FAULTS lists them."""
    found = []
    for word in FAULTS:
        applies = FAULTS[word]
        if applies(values):
            found.append(word)
    return tuple(found)


def _worded(values, word):
    """The values under all keys with this word."""
    return [value for key, value in values if key[1] == word]


def _promises(values):
    """((store, item), count) for each held part of each order."""
    return [((store, item), count) for parts, _, _, _, _ in _worded(values, "order")
            for store, item, count, _, _, _ in held_parts(parts)]


def _all_cancel_out(changes):
    """Whether the changes add up to 0 for each name; changes are pairs of a name and a number."""
    sums = {}
    for name, change in changes:
        sums[name] = sums.get(name, 0) + change
    return all([sums[name] == 0 for name in sums])


def _things_differ(values):
    changes = []
    for key, value in values:
        if key[1] in THINGS:
            changes.append((key[2], value if key[1] == "came" else -value))
    return not _all_cancel_out(changes)


def _roads_differ(values):
    away = [(key[2], value) for key, value in values if key[1] == "away"]
    return not _all_cancel_out(away + [(item, -count) for item, count in _worded(values, "road")])


def _coins_differ(values):
    paid, purses, kept, till = coins(values)
    return paid != purses + kept + till


def _promises_differ(values):
    held = [((key[0], key[2]), value) for key, value in values if key[1] == "held"]
    return not _all_cancel_out(held + [(place, -count) for place, count in _promises(values)])


def _kept_differs(values):
    return sum(_worded(values, "kept")) != owed(values)


def _till_differs(values):
    return sum(_worded(values, "till")) != earned(values)


def _is_sound(record):
    """Whether the coins of an order follow from its parts."""
    parts, value, total, charged, given = record
    if value != goods_of(parts):
        return False
    return charged == share(total, goods_sent(parts), value) and given == share(total, goods_back(parts), value)


def _orders_differ(values):
    return not all([_is_sound(record) for record in _worded(values, "order")])


def _some_are_below(values):
    return any([value < 0 for key, value in values if key[1] in NEVER_BELOW])


FAULTS = {
    "things": _things_differ,
    "roads": _roads_differ,
    "coins": _coins_differ,
    "promises": _promises_differ,
    "kept": _kept_differs,
    "till": _till_differs,
    "orders": _orders_differ,
    "below": _some_are_below,
}
