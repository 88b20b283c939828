"""Plain values as texts, and back."""

from oncecoin.basics import FIGURES, LETTERS, is_between, is_made_of
from oncecoin.errors import InvalidText, InvalidValue

MOST_FIGURES = 12
GREATEST = 999999999999
MOST_SIGNS = 12
MOST_NESTED = 20
NAMED_VALUES = {"N": None, "T": True, "F": False}


def is_plain(value):
    """Whether value is a plain value; for any value."""
    return _is_plain_within(value, MOST_NESTED)


def write_value(value):
    """The text of a plain value."""
    if not is_plain(value):
        raise InvalidValue(value)
    return _text_of(value)


def read_value(text):
    """The plain value that has this text."""
    value, end = _read_part(text, 0, MOST_NESTED)
    if end < len(text):
        raise InvalidText(text, end)
    return value


def _is_plain_within(value, room):
    """Whether value is plain with at most room tuples inside one another."""
    if value is None or isinstance(value, bool):
        return True
    if isinstance(value, tuple):
        return room > 0 and all([_is_plain_within(part, room - 1) for part in value])
    return is_between(value, -GREATEST, GREATEST) or _is_token(value)


def _is_token(value):
    return is_made_of(value, LETTERS + FIGURES, MOST_SIGNS) and value[0] in LETTERS


def _text_of(value):
    if value is None:
        return "N"
    if value is True:
        return "T"
    if value is False:
        return "F"
    if isinstance(value, tuple):
        return "(" + ",".join([_text_of(part) for part in value]) + ")"
    return str(value)


# Each reader gets the place at which its text begins and returns the value and the place behind it.
# All signs ahead of the place begin the text of some plain value: tuples may always be closed from
# there. So the first sign that a reader cannot take is the fault.


def _read_part(text, at, room):
    """Reads one value with at most room tuples inside one another."""
    if at == len(text):
        raise InvalidText(text, at)
    sign = text[at]
    if sign in NAMED_VALUES:
        return NAMED_VALUES[sign], at + 1
    if sign == "(" and room > 0:
        return _read_tuple(text, at, room - 1)
    if sign in LETTERS:
        end = _end_of_run(text, at, LETTERS + FIGURES, MOST_SIGNS)
        return text[at:end], end
    return _read_integer(text, at)


def _read_tuple(text, at, room):
    """Reads a tuple of values with at most room tuples inside one another."""
    at += 1
    if text[at:at + 1] == ")":
        return (), at + 1
    parts = []
    while True:
        part, at = _read_part(text, at, room)
        parts.append(part)
        sign = text[at:at + 1]
        if sign == ")":
            return tuple(parts), at + 1
        if sign != ",":
            raise InvalidText(text, at)
        at += 1


def _read_integer(text, at):
    if text[at] == "0":
        return 0, at + 1
    first = at + 1 if text[at] == "-" else at
    end = _end_of_run(text, first, FIGURES, MOST_FIGURES)
    if end == first or text[first] == "0":
        raise InvalidText(text, first)
    return int(text[at:end]), end


def _end_of_run(text, start, signs, most):
    """The place behind the at most most signs from start on that are among signs."""
    end = start
    while end < len(text) and end - start < most and text[end] in signs:
        end += 1
    return end
