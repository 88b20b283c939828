"""The parts of orders: (store, item, count, price, state, back)."""

from oncecoin.money import goods_value


def held_parts(parts):
    return [part for part in parts if part[4] == "held"]


def with_state(parts, chosen, state):
    """The parts, with this state at the chosen ones."""
    return tuple([part[:4] + (state,) + part[5:] if part in chosen else part for part in parts])


def pieces_out(parts, item):
    """How many sent pieces of the item were not given back."""
    return sum([count - back for _, named, count, _, state, back in parts if named == item and state == "sent"])


def with_back(parts, item, count):
    """The parts, with so many more pieces of the item given back: on the sent ones, each as far as it goes."""
    left = count
    found = []
    for part in parts:
        store, named, many, price, state, back = part
        if named == item and state == "sent":
            more = min(left, many - back)
            left = left - more
            back = back + more
        found.append((store, named, many, price, state, back))
    return tuple(found)


def goods_of(parts):
    return goods_value([(count, price) for _, _, count, price, _, _ in parts])


def goods_sent(parts):
    return goods_of([part for part in parts if part[4] == "sent"])


def goods_back(parts):
    """The value of the pieces that were given back."""
    return goods_value([(back, price) for _, _, _, price, _, back in parts])
