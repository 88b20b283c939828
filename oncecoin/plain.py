"""The plain book: one shop that does its deeds one by one."""

from oncecoin.errors import InvalidDeed, Twice
from oncecoin.forms import is_deed
from oncecoin.ledgers import Ledger
from oncecoin.scripts import next_step


class PlainBook:
    """All values of the shop, and the ids of the deeds that were done."""

    def __init__(self, *, start=()):
        self._ledger = Ledger(start)
        self._done = ()

    def __len__(self):
        return len(self._done)

    def __iter__(self):
        return iter(self._done)

    def do(self, deed_id, deed):
        """Does the deed at once, and returns its answer."""
        if not is_deed(deed):
            raise InvalidDeed(deed)
        if deed_id in self._done:
            raise Twice(deed_id)
        told = []
        step = next_step(deed_id, deed, told)
        while step[0] == "ask":
            told.append(tuple([self._answer(key, mode, many) for key, mode, many in step[2]]))
            step = next_step(deed_id, deed, told)
        _, writes, answer = step
        self._ledger.carry_out(writes)
        self._done = self._done + (deed_id,)
        return answer

    def value(self, key):
        return self._ledger.value(key)

    def all_values(self):
        return self._ledger.all_values()

    def _answer(self, key, mode, many):
        if mode == "add":
            return None
        if mode == "take":
            return min(many, self._ledger.value(key))
        return self._ledger.value(key)
