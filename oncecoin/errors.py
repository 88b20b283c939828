"""The errors of the shop. Each keeps its arguments, as they are, under the names of its parameters."""


class ShopError(ValueError):
    """Every error of the shop; never raised itself."""


class InvalidDeed(ShopError):
    """This is no deed."""

    def __init__(self, deed):
        self.deed = deed


class InvalidValue(ShopError):
    """This is no plain value."""

    def __init__(self, given):
        self.given = given


class InvalidText(ShopError):
    """This is the text of no plain value; its fault is at this place."""

    def __init__(self, text, at):
        self.text = text
        self.at = at


class InvalidNumber(ShopError):
    """There is no house, customer, or count of desks with this number."""

    def __init__(self, number):
        self.number = number


class NoKey(ShopError):
    """This is no key here."""

    def __init__(self, key):
        self.key = key


class Twice(ShopError):
    """A deed with this id was here before."""

    def __init__(self, deed_id):
        self.deed_id = deed_id


class NotGranted(ShopError):
    """No grants of this deed stand here."""

    def __init__(self, deed_id):
        self.deed_id = deed_id


class NoLetter(ShopError):
    """There is no letter at this place."""

    def __init__(self, number):
        self.number = number


class NoActor(ShopError):
    """Nobody who could be meant has this name."""

    def __init__(self, name):
        self.name = name


class Busy(ShopError):
    """This customer still waits for an answer."""

    def __init__(self, customer):
        self.customer = customer


class Torn(ShopError):
    """This text cannot be written behind a torn end."""

    def __init__(self, text):
        self.text = text


class BadBook(ShopError):
    """Neither of these two places of a disk is a book."""

    def __init__(self, texts):
        self.texts = texts


class NoOrder(ShopError):
    """These ids cannot be put in order."""

    def __init__(self, ids):
        self.ids = ids
