import unittest

from oncecoin.audits import audit, effective, on_the_way
from oncecoin.ledgers import Ledger
from oncecoin.nets import Net
from oncecoin.papers import decisions_of, paper_of
from oncecoin.plain import PlainBook
from oncecoin.sums import faults
from tests.helper import kinds
from tests.walks import START, walks

PAID = (5, "paid")


def decided(*deeds):
    """A net at which these (customer, deed) were decided, while no end of them was delivered."""
    net = Net(3, start=START)
    for customer, deed in deeds:
        net.ask(customer, deed)
        net.post(f"c{customer}")
    deliver_all(net, "deed")
    for _ in range(5):
        for name in ("d1", "d2", "d3"):
            net.post(name)
        deliver_all(net, "ask")
        for name in ("h1", "h2", "h3", "h4", "h5"):
            net.post(name)
        deliver_all(net, "told")
    return net


def deliver_all(net, word):
    """Delivers all letters with this word, and loses all others."""
    while len(net):
        if list(net)[0][3][0] == word:
            net.deliver(0)
        else:
            net.lose(0)


class WayTest(unittest.TestCase):

    def test_nothing_is_on_the_way(self):
        for desks in (1, 2, 3):
            for start in ((), START):
                net = Net(desks, start=start)
                self.assertEqual(kinds(on_the_way(net)), kinds(()))
                self.assertEqual(kinds(effective(net)), kinds(PlainBook(start=start).all_values()))
                self.assertEqual(kinds(audit(net)), kinds(()))
                net.ask(7, ("pay", 30))
                net.post("c7")
                net.deliver(0)
                self.assertEqual((on_the_way(net), effective(net)), ((), PlainBook(start=start).all_values()))

    def test_an_end_is_on_the_way_until_it_is_taken(self):
        net = decided((7, ("pay", 30)))
        end = (("h5", (7, 1), ((PAID, 30), ((5, "purse", 7), 30))),)
        self.assertEqual(kinds(on_the_way(net)), kinds(end))
        self.assertEqual(net.actor("h5").value(PAID), 1500)
        self.assertEqual(dict(effective(net))[PAID], 1530)
        self.assertEqual(audit(net), ())
        net.post("d2")
        self.assertEqual(on_the_way(net), end)
        net.blackout()
        self.assertEqual(on_the_way(net), end)
        net.post("d2")
        deliver_all(net, "end")
        # The desk still keeps it, but it was taken.
        self.assertEqual(len(net.actor("d2").line("h5")), 2)
        self.assertEqual(kinds(on_the_way(net)), kinds(()))
        self.assertEqual(net.actor("h5").value(PAID), 1530)
        self.assertEqual(dict(effective(net))[PAID], 1530)

    def test_a_cut_decides_whether_an_end_is_taken(self):
        for cut, taken in ((0, False), (5, False), (1000, True)):
            net = decided((7, ("pay", 30)))
            net.post("d2")
            places = [k for k, letter in enumerate(net) if letter[3][0] == "end"]
            self.assertIs(net.deliver(places[0], cut=cut), taken)
            self.assertEqual(on_the_way(net) == (), taken)
            self.assertEqual(dict(effective(net))[PAID], 1530)

    def test_their_order(self):
        """By desk, then by house, then by number: the one of customer 6 was sent ahead of the one of customer 3."""
        net = decided((6, ("purse",)), (1, ("order", (("tea", 1),), True, None)), (0, ("stock", 4, "cup", 2)),
                      (3, ("pay", 1)), (8, ("rate", 4)), (5, ("purse",)))
        rows = on_the_way(net)
        self.assertEqual(kinds([row[:2] for row in rows]), kinds([
            ("h4", (0, 1)), ("h5", (6, 1)), ("h5", (3, 1)), ("h1", (1, 1)), ("h2", (1, 1)), ("h5", (1, 1)),
            ("h5", (5, 1))]))
        self.assertEqual(kinds([rows[0][2], rows[1][2], rows[4][2]]), kinds([
            (((4, "came", "cup"), 2), ((4, "free", "cup"), 2)), (),
            (((2, "free", "tea"), -1), ((2, "held", "tea"), 1))]))
        self.assertEqual(audit(net), ())


class WalkTest(unittest.TestCase):
    """The sentence in bold of [34], at drawn moments."""

    def test_the_values_are_those_of_the_plain_book(self):
        on_way = 0
        for walk in walks(30, first=200):
            for moment in walk.moments():
                net = walk.net
                book, answers = PlainBook(start=walk.start), {customer: [] for customer in range(10)}
                deeds = {deed_id: deed for rows in decisions_of(net) for deed_id, deed, _ in rows}
                for deed_id in paper_of(net):
                    answers[deed_id[0]].append(book.do(deed_id, deeds[deed_id]))
                self.assertEqual(kinds(effective(net)), kinds(book.all_values()))
                self.assertEqual(kinds(audit(net)), kinds(()))
                for customer in range(10):
                    got = net.answers(customer)
                    self.assertEqual(kinds(got), kinds(tuple(answers[customer][:len(got)])))
                on_way += len(on_the_way(net)) > 0
            self.assertEqual(moment, "end")
            self.assertEqual(on_the_way(walk.net), ())
            houses = [pair for house in range(1, 6) for pair in walk.net.actor(f"h{house}").all_values()]
            self.assertEqual(tuple(houses), effective(walk.net))
        self.assertGreater(on_way, 200)

    def test_the_houses_alone_do_not_agree(self):
        """Without the ends that are on the way there would be faults: the audit needs them."""
        found = set()
        for walk in walks(10, first=300):
            for _ in walk.moments():
                houses = Ledger([pair for house in range(1, 6) for pair in walk.net.actor(f"h{house}").all_values()])
                found.update(faults(houses.all_values()))
        self.assertTrue({"things", "promises", "kept"} & found)

    def test_a_fault_is_found(self):
        net = Net(1, start=START + (((4, "came", "ace"), 1),))
        self.assertEqual(audit(net), ("things",))
        net = Net(1, start=START[:-1])
        self.assertEqual(audit(net), ("coins",))


if __name__ == "__main__":
    unittest.main()
