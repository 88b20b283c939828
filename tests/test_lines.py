import random
import unittest

from oncecoin.lines import Line
from tests.helper import kinds


def told(line):
    """All that a line says of itself."""
    return kinds((line.sent, line.got, len(line), list(line)))


class LineTest(unittest.TestCase):

    def test_a_new_line(self):
        self.assertEqual(told(Line()), kinds((0, 0, 0, [])))

    def test_send(self):
        line = Line()
        bodies = (("ask", (1, 1), ()), None, 7, "tea", (), True)
        for at, body in enumerate(bodies):
            self.assertEqual(kinds(line.send(body)), kinds(at + 1))
            self.assertEqual((line.sent, len(line)), (at + 1, at + 1))
        self.assertEqual(kinds(list(line)), kinds([(at + 1, body) for at, body in enumerate(bodies)]))
        self.assertEqual(line.got, 0)

    def test_equal_bodies_are_sent_twice(self):
        line = Line()
        self.assertEqual((line.send("tea"), line.send("tea")), (1, 2))
        self.assertEqual(list(line), [(1, "tea"), (2, "tea")])

    def test_take_in_order(self):
        line = Line()
        for number in (1, 2, 3):
            self.assertIs(line.take(number), True)
            self.assertEqual(kinds(line.got), kinds(number))
        self.assertEqual((line.sent, len(line), list(line)), (0, 0, []))

    def test_take_again_or_too_early(self):
        line = Line()
        for number in (0, 2, 3, -1, 999):
            self.assertIs(line.take(number), False)
            self.assertEqual(told(line), told(Line()))
        line.take(1)
        line.take(2)
        before = told(line)
        for number in (0, 1, 2, 4, 5, -1):
            self.assertIs(line.take(number), False)
            self.assertEqual(told(line), before)
        self.assertIs(line.take(3), True)

    def test_acknowledge(self):
        line = Line()
        for body in "abcde":
            line.send(body)
        self.assertIs(line.acknowledge(2), True)
        self.assertEqual(kinds(list(line)), kinds([(3, "c"), (4, "d"), (5, "e")]))
        self.assertEqual((line.sent, line.got, len(line)), (5, 0, 3))
        self.assertIs(line.acknowledge(3), True)
        self.assertEqual(list(line), [(4, "d"), (5, "e")])
        self.assertIs(line.acknowledge(5), True)
        self.assertEqual((list(line), len(line), line.sent), ([], 0, 5))

    def test_acknowledge_again_or_late(self):
        line = Line()
        for body in "abcde":
            line.send(body)
        line.acknowledge(3)
        before = told(line)
        for number in (3, 2, 1, 0):
            self.assertIs(line.acknowledge(number), False)
            self.assertEqual(told(line), before)
        self.assertIs(line.acknowledge(4), True)

    def test_acknowledge_nothing(self):
        line = Line()
        self.assertIs(line.acknowledge(0), False)
        line.send("a")
        self.assertIs(line.acknowledge(0), False)
        self.assertIs(line.acknowledge(1), True)
        self.assertIs(line.acknowledge(1), False)
        self.assertEqual(line.send("b"), 2)
        self.assertEqual(list(line), [(2, "b")])

    def test_numbers_go_on_behind_what_was_acknowledged(self):
        line = Line()
        for number in range(1, 40):
            self.assertEqual(line.send(number), number)
            self.assertIs(line.acknowledge(number), True)
        self.assertEqual(told(line), kinds((39, 0, 0, [])))

    def test_both_ends_are_of_no_account_to_each_other(self):
        line = Line()
        line.send("a")
        line.take(1)
        line.take(2)
        self.assertEqual(told(line), kinds((1, 2, 1, [(1, "a")])))
        line.acknowledge(1)
        self.assertEqual(told(line), kinds((1, 2, 0, [])))

    def test_an_iteration_gives_what_was_kept_when_it_began(self):
        line = Line()
        line.send("a")
        line.send("b")
        found = []
        for number, body in line:
            found.append((number, body))
            line.acknowledge(number)
            line.send(body)
        self.assertEqual(found, [(1, "a"), (2, "b")])
        self.assertEqual(list(line), [(3, "a"), (4, "b")])

    def test_sent_and_got_cannot_be_set(self):
        line = Line()
        for name in ("sent", "got"):
            with self.assertRaises(AttributeError):
                setattr(line, name, 3)


class TalkTest(unittest.TestCase):
    """Two ends, and a bag of letters between them that may do anything."""

    def test_each_end_takes_the_bodies_of_the_other_one_once_and_in_order(self):
        for seed in range(150):
            draw = random.Random(seed)
            ends, bag, sent, taken = (Line(), Line()), [], ([], []), ([], [])
            for at in range(200):
                end = draw.randrange(2)
                line = ends[end]
                if draw.random() < 0.2 and len(sent[end]) < 15:
                    sent[end].append((end, at))
                    line.send((end, at))
                if draw.random() < 0.5:
                    bag.extend([(1 - end, number, body) for number, body in line])
                    bag.append((1 - end, 0, line.got))
                if bag and draw.random() < 0.9:
                    self.deliver(draw, ends, bag, taken)
                for one in (0, 1):
                    self.assertEqual(taken[one], sent[1 - one][:len(taken[one])])
                    self.assertEqual(ends[one].got, len(taken[one]))
                    # What the other end has not got is still kept.
                    kept = [body for _, body in ends[1 - one]]
                    self.assertEqual(kept[len(kept) - len(sent[1 - one]) + len(taken[one]):], sent[1 - one][len(taken[one]):])
            self.calm(ends, taken)
            self.assertEqual(taken, (sent[1], sent[0]))
            self.assertEqual([len(line) for line in ends], [0, 0])

    def deliver(self, draw, ends, bag, taken):
        """A letter is lost, or taken, and perhaps taken again later."""
        at = draw.randrange(len(bag))
        receiver, number, body = bag[at] if draw.random() < 0.3 else bag.pop(at)
        if draw.random() < 0.2:
            return
        if number == 0:
            ends[receiver].acknowledge(body)
        elif ends[receiver].take(number):
            taken[receiver].append(body)

    def calm(self, ends, taken):
        for end in (0, 1):
            for number, body in ends[end]:
                if ends[1 - end].take(number):
                    taken[1 - end].append(body)
            ends[end].acknowledge(ends[1 - end].got)


if __name__ == "__main__":
    unittest.main()
