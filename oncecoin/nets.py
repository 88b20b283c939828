"""A net: the desks and houses of a shop, its customers, and the letters between all of them."""

from oncecoin.basics import is_between
from oncecoin.customers import Customer
from oncecoin.desks import Desk
from oncecoin.errors import Busy, InvalidDeed, InvalidNumber, NoActor, NoLetter
from oncecoin.forms import is_deed
from oncecoin.houses import House
from oncecoin.names import CUSTOMERS, DESKS, HOUSES, customer_name, customer_of


class Net:
    """Letters are tuples (sender, receiver, number, body), in a row."""

    MOST = 1000

    def __init__(self, desks, *, start=()):
        if not is_between(desks, 1, len(DESKS)):
            raise InvalidNumber(desks)
        self._desks = [Desk(name) for name in DESKS[:desks]]
        self._houses = [House(name, start=start) for name in HOUSES]
        self._actors = {actor.name: actor for actor in self._desks + self._houses}
        self._customers = {name: Customer() for name in CUSTOMERS}
        self._letters = ()

    def __len__(self):
        return len(self._letters)

    def __iter__(self):
        return iter(self._letters)

    def ask(self, customer, deed):
        """Lets the customer want this deed; returns its id."""
        person = self._person(customer)
        if not is_deed(deed):
            raise InvalidDeed(deed)
        if person.wanted() is not None:
            raise Busy(customer)
        return (customer, person.want(deed))

    def open_deed(self, customer):
        """(deed_id, deed) if the customer waits for an answer, otherwise None."""
        wanted = self._person(customer).wanted()
        if wanted is None:
            return None
        number, deed = wanted
        return ((customer, number), deed)

    def answers(self, customer):
        """The answers that the customer got, in order."""
        return self._person(customer).told()

    def answered(self, customer):
        """The pairs (deed, answer) of the deeds that the customer has got answers for, in order."""
        return self._person(customer).answered()

    def actor(self, name):
        if not self._is_actor(name):
            raise NoActor(name)
        return self._actors[name]

    def desks(self):
        """The desks, by ascending name."""
        return tuple(self._desks)

    def houses(self):
        """The houses, by ascending name."""
        return tuple(self._houses)

    def post(self, name):
        """Puts what this actor or customer has to say at the end of the row, as far as there is room."""
        if name in CUSTOMERS:
            letters = self._letters_of_customer(name)
        else:
            letters = self.actor(name).letters()
        self._put([(name,) + letter for letter in letters])

    def deliver(self, k, *, cut=None):
        """Gives letter k to its receiver; returns whether this one has changed."""
        sender, receiver, number, body = self._taken_out(k)
        if receiver in CUSTOMERS:
            return self._customers[receiver].get_answer(number, body[1])
        return self.actor(receiver).handle(_event(sender, number, body), cut=cut)

    def double(self, k):
        """Puts one more letter like letter k at the end of the row, if there is room."""
        self._put([self._letter(k)])

    def lose(self, k):
        """Takes letter k out of the row."""
        self._taken_out(k)

    def put_off(self, k):
        """Puts letter k at the end of the row."""
        self._put([self._taken_out(k)])

    def fall(self, name):
        """Lets this actor fall and come back."""
        self.actor(name).fall()

    def close(self, name, *, cut=None):
        """Lets this actor begin a new book; returns whether its whole head reached the disk."""
        return self.actor(name).close(cut=cut)

    def blackout(self):
        """Loses all letters, and lets every actor fall and come back."""
        self._letters = ()
        for actor in self._desks + self._houses:
            actor.fall()

    def calm(self):
        """Delivers all letters in rounds until nothing changes; returns in how many rounds something changed."""
        self._deliver_all()
        rounds = 0
        while self._makes_round():
            rounds = rounds + 1
        return rounds

    def _makes_round(self):
        """Lets everybody post, and delivers all letters; returns whether something changed."""
        for name in sorted(CUSTOMERS + tuple(self._actors)):
            self.post(name)
        return self._deliver_all()

    def _deliver_all(self):
        """Always delivers the first letter until there is none; returns whether something changed."""
        changed = False
        while len(self._letters) > 0:
            if self.deliver(0):
                changed = True
        return changed

    def _person(self, customer):
        if not is_between(customer, 0, len(CUSTOMERS) - 1):
            raise InvalidNumber(customer)
        return self._customers[customer_name(customer)]

    def _is_actor(self, name):
        # Not every value can be looked up in a dict.
        return isinstance(name, str) and name in self._actors

    def _letters_of_customer(self, name):
        wanted = self._customers[name].wanted()
        if wanted is None:
            return ()
        number, deed = wanted
        desk = self._desks[customer_of(name) % len(self._desks)]
        return ((desk.name, number, ("deed", deed)),)

    def _letter(self, k):
        if not is_between(k, 0, len(self._letters) - 1):
            raise NoLetter(k)
        return self._letters[k]

    def _taken_out(self, k):
        """Takes letter k out of the row, and returns it."""
        letter = self._letter(k)
        self._letters = self._letters[:k] + self._letters[k + 1:]
        return letter

    def _put(self, letters):
        """Puts letters at the end of the row; those for which there is no room are lost."""
        self._letters = (self._letters + tuple(letters))[:Net.MOST]


def _event(sender, number, body):
    """The event that a letter to an actor stands for."""
    if body[0] == "got":
        return ("got", sender, body[1])
    if sender in CUSTOMERS:
        return ("deed", customer_of(sender), number, body[1])
    return ("letter", sender, number, body)
