"""Audits: what all houses of a net would have written down if every end that was sent had been taken."""

from oncecoin.ledgers import Ledger
from oncecoin.sums import faults


def on_the_way(net):
    """(house, deed_id, writes) for each end that was sent and not taken yet."""
    found = []
    for desk in net.desks():
        for house in net.houses():
            got = house.line(desk.name).got
            for number, body in desk.line(house.name):
                # A body that was taken is kept until the desk hears of it.
                if number > got and body[0] == "end":
                    found.append((house.name, body[1], body[2]))
    return tuple(found)


def effective(net):
    """The pairs (key, value) of all houses, with the writes that are on the way carried out."""
    ledger = Ledger([pair for house in net.houses() for pair in house.all_values()])
    for _, _, writes in on_the_way(net):
        ledger.carry_out(writes)
    return ledger.all_values()


def audit(net):
    """The faults of the effective values."""
    return faults(effective(net))
