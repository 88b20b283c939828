"""All the lines of one actor, by the names of those to whom they lead."""

from oncecoin.lines import Line


class Talks:
    """A line to each of these names."""

    def __init__(self, names):
        self._lines = {name: Line() for name in names}

    @classmethod
    def of_state(cls, state):
        """The talks that told this state."""
        talks = cls(())
        talks._lines = {name: Line.of_state(row) for name, row in state}
        return talks

    def state(self):
        """A plain value that tells all of the talks."""
        return tuple([(name, self._lines[name].state()) for name in sorted(self._lines)])

    def line(self, name):
        return self._lines[name]

    def letters(self):
        """What there is to say on all lines, as (receiver, number, body)."""
        found = []
        for name in sorted(self._lines):
            line = self._lines[name]
            found.extend([(name, number, body) for number, body in line])
            if line.got > 0:
                found.append((name, 0, ("got", line.got)))
        return found

    def would_change(self, event):
        """Whether this letter or acknowledgement is news."""
        kind, sender, number = event[:3]
        line = self._lines[sender]
        if kind == "got":
            return line.keeps_up_to(number)
        return line.is_next(number)

    def hear(self, event):
        """Takes a letter or an acknowledgement; returns the body of a letter that was taken, otherwise None."""
        kind, sender, number = event[:3]
        line = self._lines[sender]
        if kind == "got":
            line.acknowledge(number)
            return None
        return event[3] if line.take(number) else None
