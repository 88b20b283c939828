"""Statements: what a customer can work out alone, from deeds and their answers."""


def purse_told(rows, coins):
    """The coins in the purse of a customer with these pairs (deed, answer), who had so many coins at first."""
    return coins + sum([_change_of_purse(deed, answer) for deed, answer in rows])


def orders_told(customer, rows):
    """(order_id, total, freed, given) for each promised order of this customer."""
    found = []
    for at, (_, answer) in enumerate(rows):
        if answer[0] == "promised":
            order_id = (customer, at + 1)
            found.append((order_id, answer[1], _coins_of(rows, order_id, "freed"), _coins_of(rows, order_id, "given")))
    return tuple(found)


def rows_of(net, customer):
    """The pairs (deed, answer) of the deeds that this customer has got answers for."""
    return net.answered(customer)


def _change_of_purse(deed, answer):
    """The coins that this deed brought into the purse, below 0 if it took them."""
    if answer == ("done",) and deed[0] == "pay":
        return deed[1]
    if answer == ("done",) and deed[0] == "draw":
        return -deed[1]
    if answer[0] == "promised":
        return -answer[1]
    if answer[0] in ("freed", "given"):
        return answer[1]
    return 0


def _coins_of(rows, order_id, word):
    """The coins that answers with this word brought for this order."""
    return sum([answer[1] for deed, answer in rows if answer[0] == word and deed[1] == order_id])
