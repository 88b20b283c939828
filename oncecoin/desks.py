"""Desks: each takes the deeds of its customers, and carries them out at the houses."""

from oncecoin.actors import Actor
from oncecoin.disks import Disk
from oncecoin.errors import NoActor
from oncecoin.names import DESKS, HOUSES, customer_name, house_name
from oncecoin.scripts import next_step
from oncecoin.talks import Talks


class Desk(Actor):
    """The deeds that are open or decided, and a line to each house."""

    def __init__(self, name):
        if name not in DESKS:
            raise NoActor(name)
        self._open = {}
        self._decisions = []
        Actor.__init__(self, name, Talks(HOUSES))

    @classmethod
    def come_back(cls, name, places):
        """The desk that comes back from these two strings of a disk."""
        desk = cls(name)
        desk.disk = Disk.of_places(places)
        desk.fall()
        return desk

    def state(self):
        rows = tuple([(deed_id,) + self._open[deed_id] for deed_id in self.open_deeds()])
        return (self._talks.state(), rows, self.decisions())

    def letters(self):
        """What the desk has to say now, as (receiver, number, body)."""
        return tuple(self._talks.letters() + self._letters_to_customers())

    def decisions(self):
        """(deed_id, deed, answer) of the decided deeds, in the order in which they were decided."""
        return tuple(self._decisions)

    def open_deeds(self):
        """The ids of the deeds that are taken and not decided, ascending."""
        return tuple(sorted(self._open))

    def _restore(self, state):
        talks, rows, decisions = state
        self._talks = Talks.of_state(talks)
        self._open = {deed_id: (deed, asked, told) for deed_id, deed, asked, told in rows}
        self._decisions = list(decisions)

    def _would_change(self, event):
        if event[0] == "deed":
            return self._is_next_deed(event[1], event[2])
        return self._talks.would_change(event)

    def _change(self, event):
        if event[0] == "deed":
            _, customer, number, deed = event
            self._go_on((customer, number), deed, (), ())
            return
        body = self._talks.hear(event)
        if body is not None:
            _, deed_id, answers = body
            deed, asked, told = self._open.pop(deed_id)
            self._go_on(deed_id, deed, asked, told + (answers,))

    def _is_next_deed(self, customer, number):
        """Whether the customer's deed with this number can be taken now."""
        decided = len([deed_id for deed_id, _, _ in self._decisions if deed_id[0] == customer])
        return number == decided + 1 and not self._has_open_deed(customer)

    def _has_open_deed(self, customer):
        return customer in [deed_id[0] for deed_id in self._open]

    def _go_on(self, deed_id, deed, asked, told):
        """Makes the next step of a deed that has asked these houses, and was told these answers."""
        step = next_step(deed_id, deed, told)
        if step[0] == "ask":
            _, house, requests = step
            self._open[deed_id] = (deed, asked + (house,), told)
            self._send(house, ("ask", deed_id, requests))
        else:
            _, writes, answer = step
            for house in asked:
                self._send(house, ("end", deed_id, tuple([row for row in writes if row[0][0] == house])))
            self._decisions.append((deed_id, deed, answer))

    def _send(self, house, body):
        self._talks.line(house_name(house)).send(body)

    def _letters_to_customers(self):
        """The answer to the last deed of each customer who has no open one."""
        last = {deed_id[0]: (deed_id[1], ("answer", answer)) for deed_id, _, answer in self._decisions}
        return [(customer_name(customer),) + last[customer] for customer in sorted(last)
                if not self._has_open_deed(customer)]
