"""The forms of ids, keys and deeds."""

from oncecoin.basics import LETTERS, is_between, is_made_of
from oncecoin.errors import NoKey

OFFICE = 1
FIRST_STORE = 2
LAST_STORE = 4
BANK = 5
LAST_CUSTOMER = 9
MOST_NUMBER = 999
MOST_COUNT = 999
MOST_COINS = 99999
MOST_RATE = 999
MOST_LETTERS = 8
MOST_LINES = 4


def _is_office(value):
    return is_between(value, OFFICE, OFFICE)


def _is_store(value):
    return is_between(value, FIRST_STORE, LAST_STORE)


def _is_bank(value):
    return is_between(value, BANK, BANK)


def _is_customer(value):
    return is_between(value, 0, LAST_CUSTOMER)


def _is_buyer(value):
    """Whether value is a customer other than the clerk, who has no purse."""
    return is_between(value, 1, LAST_CUSTOMER)


def _is_number(value):
    return is_between(value, 1, MOST_NUMBER)


def _is_count(value):
    return is_between(value, 1, MOST_COUNT)


def _is_coins(value):
    return is_between(value, 0, MOST_COINS)


def _is_some_coins(value):
    return is_between(value, 1, MOST_COINS)


def _is_rate(value):
    return is_between(value, 0, MOST_RATE)


def _is_word(value):
    return is_made_of(value, LETTERS, MOST_LETTERS)


def _is_word_or_none(value):
    return value is None or _is_word(value)


def _is_flag(value):
    return isinstance(value, bool)


def is_id(value):
    """Whether value is a deed id; for any value."""
    return isinstance(value, tuple) and len(value) == 2 and _is_customer(value[0]) and _is_number(value[1])


def _is_line(value):
    return isinstance(value, tuple) and len(value) == 2 and _is_word(value[0]) and _is_count(value[1])


def _is_lines(value):
    if not isinstance(value, tuple) or not 1 <= len(value) <= MOST_LINES:
        return False
    if not all([_is_line(line) for line in value]):
        return False
    return all([line[0] < after[0] for line, after in zip(value, value[1:])])


PART_TESTS = {
    "office": _is_office,
    "store": _is_store,
    "bank": _is_bank,
    "customer": _is_customer,
    "buyer": _is_buyer,
    "number": _is_number,
    "count": _is_count,
    "coins": _is_coins,
    "some coins": _is_some_coins,
    "rate": _is_rate,
    "word": _is_word,
    "word or none": _is_word_or_none,
    "flag": _is_flag,
    "deed id": is_id,
    "lines": _is_lines,
}

# By the second part of a key: its house, and the parts behind its second one.
KEY_PARTS = {
    "price": ("office", "word"),
    "rate": ("office",),
    "coupon": ("office", "word"),
    "order": ("office", "customer", "number"),
    "road": ("office", "customer", "number"),
    "away": ("office", "word"),
    "came": ("store", "word"),
    "free": ("store", "word"),
    "held": ("store", "word"),
    "out": ("store", "word"),
    "purse": ("bank", "buyer"),
    "kept": ("bank",),
    "till": ("bank",),
    "paid": ("bank",),
}

# By the first part of a deed: the parts behind it.
DEED_PARTS = {
    "price": ("word", "coins"),
    "rate": ("rate",),
    "coupon": ("word", "coins"),
    "stock": ("store", "word", "count"),
    "move": ("store", "word", "count"),
    "arrive": ("deed id", "store", "word"),
    "send": ("deed id", "store"),
    "count": ("word",),
    "pay": ("some coins",),
    "draw": ("some coins",),
    "order": ("lines", "flag", "word or none"),
    "cancel": ("deed id",),
    "back": ("deed id", "store", "word", "count"),
    "purse": (),
    "look": ("deed id",),
}


def is_deed(value):
    """Whether value has the form of a deed, whoever does it; for any value."""
    if not isinstance(value, tuple) or len(value) == 0 or not isinstance(value[0], str):
        return False
    return value[0] in DEED_PARTS and _fits(value[1:], DEED_PARTS[value[0]])


def is_key(value):
    """Whether value names a value that some house keeps; for any value."""
    if not isinstance(value, tuple) or len(value) < 2 or not isinstance(value[1], str):
        return False
    return value[1] in KEY_PARTS and _fits(value[:1] + value[2:], KEY_PARTS[value[1]])


def first_value(key):
    """The value that stands under this key at first."""
    if is_amount(key) or key[1] == "rate":
        return 0
    return None


def is_amount(key):
    """Whether the value under this key is an amount; otherwise it is a record."""
    if not is_key(key):
        raise NoKey(key)
    return key[0] != OFFICE or key[1] == "away"


def _fits(parts, kinds):
    """Whether there is one part of each of these kinds, in their order."""
    return len(parts) == len(kinds) and all([_is_of_kind(part, kind) for part, kind in zip(parts, kinds)])


def _is_of_kind(part, kind):
    test = PART_TESTS[kind]
    return test(part)
