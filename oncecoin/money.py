"""What goods, taxes and shares come to, in whole coins."""


def goods_value(pairs):
    """The sum of count * price of the pairs (count, price)."""
    return sum([count * price for count, price in pairs])


def tax_of(amount, rate):
    """The tax on this amount at a rate in thousandths, rounded down."""
    return amount * rate // 1000


def total_of(value, discount, rate):
    """What goods of this value cost with a discount, which takes off no more than the value, and with tax."""
    net = value - min(value, discount)
    return net + tax_of(net, rate)


def share(total, part, whole):
    """The share of the total that falls to a part of the whole, rounded down."""
    if whole == 0:
        return 0
    return total * part // whole


def shares(total, parts):
    """The shares of the parts, rounded so that they add up to the total unless all parts are 0."""
    whole = sum(parts)
    found = []
    upto = 0
    before = 0
    for part in parts:
        upto = upto + part
        after = share(total, upto, whole)
        found.append(after - before)
        before = after
    return tuple(found)
