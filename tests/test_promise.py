"""The main promise, over all of the program."""

import random
import unittest

from oncecoin.nets import Net
from oncecoin.papers import decisions_of, paper_of
from oncecoin.plain import PlainBook
from oncecoin.sums import promised, things
from oncecoin.audits import effective
from tests.helper import kinds
from tests.model import some_deeds
from tests.walks import ITEMS, Walk, walks


def done_in_order(net, start):
    """A plain book that did what the net has decided, in the order of its paper, and its answers by customer."""
    book, answers = PlainBook(start=start), {customer: () for customer in range(10)}
    deeds = {deed_id: deed for rows in decisions_of(net) for deed_id, deed, _ in rows}
    for deed_id in paper_of(net):
        answers[deed_id[0]] += (book.do(deed_id, deeds[deed_id]),)
    return book, answers


class PromiseTest(unittest.TestCase):

    def check_end(self, walk, wanted):
        net = walk.net
        net.calm()
        book, answers = done_in_order(net, walk.start)
        self.assertEqual(sorted(book), sorted(wanted))
        for customer in range(10):
            self.assertEqual(kinds(net.answers(customer)), kinds(answers[customer]))
        houses = [pair for house in range(1, 6) for pair in net.actor(f"h{house}").all_values()]
        self.assertEqual(kinds(tuple(houses)), kinds(book.all_values()))

    def test_the_answers_and_the_values_are_those_of_one_plain_book(self):
        for walk in walks(60, first=600):
            wanted = {}
            for _ in range(walk.steps):
                walk.step()
                for customer in range(10):
                    if walk.net.open_deed(customer) is not None:
                        deed_id, deed = walk.net.open_deed(customer)
                        wanted[deed_id] = deed
            self.check_end(walk, wanted)
            decided = {deed_id: deed for rows in decisions_of(walk.net) for deed_id, deed, _ in rows}
            self.assertEqual(decided, wanted)

    def test_deeds_one_by_one(self):
        """What is done in turn has the answers of a book that does it in the same turn."""
        for seed in range(25):
            draw = random.Random(seed)
            net, book = Net(draw.choice((1, 2, 3))), PlainBook()
            for deed_id, deed in some_deeds(draw, 40):
                self.assertEqual(net.ask(deed_id[0], deed), deed_id)
                net.calm()
                self.assertEqual(kinds(net.answers(deed_id[0])[-1]), kinds(book.do(deed_id, deed)))
            houses = [pair for house in range(1, 6) for pair in net.actor(f"h{house}").all_values()]
            self.assertEqual(kinds(tuple(houses)), kinds(book.all_values()))
            self.assertEqual(kinds(effective(net)), kinds(book.all_values()))

    def test_what_is_promised_lies_held_and_each_thing_is_at_one_place(self):
        for walk in walks(15, first=700):
            for _ in walk.moments():
                values = effective(walk.net)
                for item in ITEMS:
                    came, free, held, out, away = things(values, item)
                    self.assertEqual(came, free + held + out + away)
                    for store in (2, 3, 4):
                        self.assertEqual(dict(values).get((store, "held", item), 0), promised(values, store, item))

    def test_equal_nets_with_equal_calls_are_equal(self):
        for seed in range(5):
            one, other = Walk(seed), Walk(seed)
            self.assertEqual(one.all_events(), other.all_events())
            self.assertEqual(list(one.net), list(other.net))
            for name in one.actors:
                self.assertEqual(one.net.actor(name).disk.places(), other.net.actor(name).disk.places())

    def test_without_any_letter_nothing_is_lost(self):
        """Every deed goes on from the disks alone, whatever was on the way."""
        for walk in walks(15, first=800):
            wanted = {}
            for at in range(walk.steps):
                walk.step()
                for customer in range(10):
                    if walk.net.open_deed(customer) is not None:
                        wanted[walk.net.open_deed(customer)[0]] = True
                if at % 60 == 0:
                    walk.net.blackout()
                    self.assertEqual(len(walk.net), 0)
            walk.net.blackout()
            self.check_end(walk, wanted)


if __name__ == "__main__":
    unittest.main()
