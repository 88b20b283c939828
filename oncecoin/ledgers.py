"""Values by key."""

from oncecoin.forms import first_value, is_amount


class Ledger:
    """The values that stand under keys; under all others stand their first ones."""

    def __init__(self, pairs):
        self._values = {key: value for key, value in pairs}

    def value(self, key):
        # Asked first, since it raises NoKey, also for what cannot be looked up at all.
        first = first_value(key)
        return self._values.get(key, first)

    def carry_out(self, writes):
        """Changes amounts by what is written, and sets records to it."""
        for key, what in writes:
            if is_amount(key):
                self._values[key] = self.value(key) + what
            else:
                self._values[key] = what

    def all_values(self):
        """The pairs (key, value) with a value other than the first one, ascending by key."""
        return tuple([(key, value) for key, value in sorted(self._values.items()) if value != first_value(key)])
