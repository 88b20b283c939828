"""The counter of a house: it lets deeds work on the values side by side, as long as each answer is sure."""

from oncecoin.basics import is_between
from oncecoin.errors import InvalidNumber, NoKey, NotGranted, Twice
from oncecoin.forms import BANK, OFFICE, is_key
from oncecoin.ledgers import Ledger

# The modes of grants that change an amount without anyone's having to know it; a take is ample or short.
SIDE_BY_SIDE = ("add", "ample")


class Counter:
    """The values of one house, the asks that wait for them, and the grants that stand on them."""

    def __init__(self, house, *, start=()):
        if not is_between(house, OFFICE, BANK):
            raise InvalidNumber(house)
        self._house = house
        self._ledger = Ledger([(key, value) for key, value in start if key[0] == house])
        self._waiting = []
        self._grants = {}
        self._trace = []

    @classmethod
    def of_state(cls, house, state):
        """The counter of this house that told this state."""
        values, waiting, grants, trace = state
        counter = cls(house, start=values)
        counter._waiting = list(waiting)
        counter._grants = {deed_id: rows for deed_id, rows in grants}
        counter._trace = list(trace)
        return counter

    def state(self):
        """A plain value that tells all of the counter."""
        grants = tuple([(deed_id, self._grants[deed_id]) for deed_id in self.granted()])
        return (self.all_values(), tuple(self._waiting), grants, self.trace())

    def ask(self, deed_id, requests):
        """Lets the deed ask; returns what is newly granted, pairs (deed_id, answers)."""
        if deed_id in self.waiting() or ("granted", deed_id) in self._trace:
            raise Twice(deed_id)
        for key, _, _ in requests:
            if not self._is_here(key):
                raise NoKey(key)
        self._waiting.append((deed_id, tuple([(key, mode, many) for key, mode, many in requests])))
        return self._newly_granted()

    def end(self, deed_id, writes):
        """Carries out the writes of a deed and takes back its grants; returns what is newly granted, as ask does."""
        if deed_id not in self._grants:
            raise NotGranted(deed_id)
        changed = [key for key, mode, _ in self._grants[deed_id] if mode != "see"]
        for key, _ in writes:
            # A key with a bool in it equals one with an integer, but is none.
            if not self._is_here(key) or key not in changed:
                raise NoKey(key)
        self._ledger.carry_out(writes)
        del self._grants[deed_id]
        self._trace.append(("ended", deed_id))
        return self._newly_granted()

    def value(self, key):
        if not self._is_here(key):
            raise NoKey(key)
        return self._ledger.value(key)

    def all_values(self):
        return self._ledger.all_values()

    def waiting(self):
        """The ids of the waiting asks, in their order."""
        return tuple([deed_id for deed_id, _ in self._waiting])

    def granted(self):
        """The ids whose grants stand, ascending."""
        return tuple(sorted(self._grants))

    def trace(self):
        """All that was granted and ended so far, in order."""
        return tuple(self._trace)

    def _is_here(self, key):
        return is_key(key) and key[0] == self._house

    def _newly_granted(self):
        """Goes through the waiting asks one time, and grants what can be granted."""
        found = []
        left = []
        held_up = {}
        for deed_id, requests in self._waiting:
            grants = None
            if not any([key in held_up for key, _, _ in requests]):
                grants = self._grants_for(requests)
            if grants is None:
                left.append((deed_id, requests))
                for key, _, _ in requests:
                    held_up[key] = True
            else:
                self._grants[deed_id] = grants
                self._trace.append(("granted", deed_id))
                found.append((deed_id, tuple([answer for _, _, answer in grants])))
        self._waiting = left
        return tuple(found)

    def _grants_for(self, requests):
        """(key, mode, answer) for each of these requests; None unless all of them can be granted now."""
        grants = []
        for key, mode, many in requests:
            found = self._mode_and_answer(key, mode, many)
            if found is None:
                return None
            grants.append((key,) + found)
        return tuple(grants)

    def _mode_and_answer(self, key, mode, many):
        """The mode in which a grant would stand on this key, and its answer; None if it cannot stand there now."""
        value = self._ledger.value(key)
        standing = [(other, answer) for grants in self._grants.values()
                    for named, other, answer in grants if named == key]
        if mode == "take":
            return _taken(value, many, standing)
        if mode == "add":
            return ("add", None) if _are_side_by_side(standing) else None
        lets = len(standing) == 0 or (mode == "see" and all([other == "see" for other, _ in standing]))
        return (mode, value) if lets else None


def _are_side_by_side(standing):
    return all([mode in SIDE_BY_SIDE for mode, _ in standing])


def _taken(value, many, standing):
    """The mode and answer of a take beside the grants that stand there; None if it has to wait."""
    left = value - sum([answer for mode, answer in standing if mode == "ample"])
    if _are_side_by_side(standing) and many <= left:
        return ("ample", many)
    if len(standing) == 0:
        return ("short", value)
    return None
