"""A line: one end of a talk between two actors."""


class Line:
    """Numbers what is sent, keeps it until it is acknowledged, and knows how much was got."""

    def __init__(self):
        self._sent = 0
        self._got = 0
        self._kept = ()

    def __len__(self):
        return len(self._kept)

    def __iter__(self):
        return iter(self._kept)

    @classmethod
    def of_state(cls, state):
        """The line that told this state."""
        line = cls()
        line._sent, line._got, line._kept = state
        return line

    def state(self):
        """A plain value that tells all of the line."""
        return (self._sent, self._got, self._kept)

    @property
    def sent(self):
        """How many bodies were sent."""
        return self._sent

    @property
    def got(self):
        """How many bodies of the other end were got."""
        return self._got

    def send(self, body):
        """Keeps the body until it is acknowledged; returns its number."""
        self._sent = self._sent + 1
        self._kept = self._kept + ((self._sent, body),)
        return self._sent

    def is_next(self, number):
        """Whether the body with this number is the next one to be got."""
        return number == self._got + 1

    def take(self, number):
        """Gets the body with this number if it is the next one; returns whether it is."""
        if not self.is_next(number):
            return False
        self._got = self._got + 1
        return True

    def keeps_up_to(self, number):
        """Whether bodies with numbers up to this one are still kept."""
        return any([kept <= number for kept, _ in self._kept])

    def acknowledge(self, number):
        """Keeps bodies with numbers up to this one no longer; returns whether there were any."""
        if not self.keeps_up_to(number):
            return False
        self._kept = tuple([(kept, body) for kept, body in self._kept if kept > number])
        return True
