"""Customers: each wants one deed after another, and keeps the answers."""


class Customer:
    """The deeds that a customer wanted so far, and the answers to the first of them."""

    def __init__(self):
        self._deeds = []
        self._answers = []

    def want(self, deed):
        """Wants this deed from now on; returns its number."""
        self._deeds.append(deed)
        return len(self._deeds)

    def wanted(self):
        """The number and the deed that wait for an answer; None if there is no such deed."""
        if len(self._deeds) == len(self._answers):
            return None
        return (len(self._deeds), self._deeds[-1])

    def told(self):
        """The answers, in order."""
        return tuple(self._answers)

    def answered(self):
        """The pairs (deed, answer), in order."""
        return tuple(zip(self._deeds, self._answers))

    def get_answer(self, number, answer):
        """Takes the answer if the deed with this number waits for it; returns whether it does."""
        wanted = self.wanted()
        if wanted is None or wanted[0] != number:
            return False
        self._answers.append(answer)
        return True
