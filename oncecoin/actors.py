"""What houses and desks have in common: each change of their state is on their disk before it is made."""

from oncecoin.codec import read_value, write_value
from oncecoin.disks import Disk


class Actor:
    """What has a state and a disk. The classes below say what their states are, and how events change them."""

    def __init__(self, name, talks):
        self.name = name
        self._talks = talks
        self.disk = Disk(write_value(self.state()))

    def handle(self, event, *, cut=None):
        """Lets the event happen, with a number as cut so that the actor falls while it writes; returns whether the
        state has changed."""
        recorded = self._would_change(event) and self.disk.write(write_value(event), cut=cut)
        if cut is not None:
            self.fall()
        elif recorded:
            self._change(event)
        return recorded

    def fall(self):
        """Forgets everything, and comes back from the disk."""
        self.disk.mend()
        self._restore(read_value(self.disk.head()))
        for text in self.disk.records():
            self._change(read_value(text))

    def close(self, *, cut=None):
        """Begins a new book with the state, with a number as cut so that the actor falls while it writes; returns
        whether the whole head reached the disk."""
        whole = self.disk.close(write_value(self.state()), cut=cut)
        if cut is not None:
            self.fall()
        return whole

    def line(self, name):
        """The line to the actor with this name."""
        return self._talks.line(name)

    def state(self):
        """A plain value that tells the whole state."""
        raise NotImplementedError("each class below has its own")

    def _restore(self, state):
        """Takes over a state that was told."""
        raise NotImplementedError("each class below has its own")

    def _would_change(self, event):
        """Whether the event would change the state."""
        raise NotImplementedError("each class below has its own")

    def _change(self, event):
        """Changes the state; how, follows from the state and the event alone."""
        raise NotImplementedError("each class below has its own")
