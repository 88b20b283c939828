"""Houses: each lets the desks work on its values."""

from oncecoin.actors import Actor
from oncecoin.counters import Counter
from oncecoin.disks import Disk
from oncecoin.errors import NoActor
from oncecoin.names import DESKS, HOUSES, house_of
from oncecoin.talks import Talks


class House(Actor):
    """A counter, a line to each desk, and who asked for each ask that waits."""

    def __init__(self, name, *, start=()):
        if name not in HOUSES:
            raise NoActor(name)
        self._counter = Counter(house_of(name), start=start)
        self._askers = {}
        Actor.__init__(self, name, Talks(DESKS))

    @classmethod
    def come_back(cls, name, places):
        """The house that comes back from these two strings of a disk."""
        house = cls(name)
        house.disk = Disk.of_places(places)
        house.fall()
        return house

    def state(self):
        askers = tuple([(deed_id, self._askers[deed_id]) for deed_id in self.waiting()])
        return (self._talks.state(), self._counter.state(), askers)

    def letters(self):
        """What the house has to say now, as (receiver, number, body)."""
        return tuple(self._talks.letters())

    def value(self, key):
        return self._counter.value(key)

    def all_values(self):
        return self._counter.all_values()

    def waiting(self):
        return self._counter.waiting()

    def trace(self):
        return self._counter.trace()

    def _restore(self, state):
        talks, counter, askers = state
        self._talks = Talks.of_state(talks)
        self._counter = Counter.of_state(house_of(self.name), counter)
        self._askers = {deed_id: desk for deed_id, desk in askers}

    def _would_change(self, event):
        return self._talks.would_change(event)

    def _change(self, event):
        body = self._talks.hear(event)
        if body is None:
            return
        word, deed_id, rows = body
        if word == "ask":
            self._askers[deed_id] = event[1]
            self._tell(self._counter.ask(deed_id, rows))
        else:
            self._tell(self._counter.end(deed_id, rows))

    def _tell(self, granted):
        """Tells each desk what was granted to its deeds."""
        for deed_id, answers in granted:
            desk = self._askers.pop(deed_id)
            self._talks.line(desk).send(("told", deed_id, answers))
