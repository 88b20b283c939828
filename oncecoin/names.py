"""The names of houses, desks and customers."""

HOUSES = ("h1", "h2", "h3", "h4", "h5")
DESKS = ("d1", "d2", "d3")
CUSTOMERS = ("c0", "c1", "c2", "c3", "c4", "c5", "c6", "c7", "c8", "c9")


def house_name(house):
    return HOUSES[house - 1]


def house_of(name):
    """The number of the house with this name."""
    return HOUSES.index(name) + 1


def customer_name(customer):
    return CUSTOMERS[customer]


def customer_of(name):
    """The number of the customer with this name."""
    return CUSTOMERS.index(name)
