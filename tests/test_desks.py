import unittest

from oncecoin.desks import Desk
from oncecoin.errors import NoActor
from oncecoin.scripts import next_step
from tests.helper import ODD_VALUES, kinds
from tests.walks import Walk

PAID, PURSE = (5, "paid"), (5, "purse", 7)
PAY = ("ask", (7, 1), ((PAID, "add", 0), (PURSE, "add", 0)))
ORDER = ("order", (("tea", 2),), True, None)
RECORD = (((3, "tea", 2, 30, "held", 0),), 60, 60, 0, 0)


def deed(customer, number, *parts):
    return ("deed", customer, number, parts)


def told(house, number, deed_id, *answers):
    return ("letter", house, number, ("told", deed_id, answers))


class DeskTest(unittest.TestCase):

    def desk(self, *events):
        """A desk after these events, all of which it took."""
        desk = Desk("d2")
        self.takes(desk, *events)
        return desk

    def takes(self, desk, *events):
        for event in events:
            self.assertIs(desk.handle(event), True, event)

    def leaves(self, desk, *events):
        before = kinds((desk.state(), desk.letters()))
        for event in events:
            self.assertIs(desk.handle(event), False, event)
            self.assertEqual(kinds((desk.state(), desk.letters())), before)

    def says(self, desk, *letters):
        self.assertEqual(kinds(desk.letters()), kinds(letters))

    def stands(self, desk, decisions, open_deeds):
        self.assertEqual(kinds((desk.decisions(), desk.open_deeds())), kinds((decisions, open_deeds)))


class DeedTest(DeskTest):

    def test_new_desks(self):
        for name in ("d1", "d2", "d3"):
            desk = Desk(name)
            self.stands(desk, (), ())
            self.says(desk)

    def test_no_actor(self):
        for name in ODD_VALUES + ("d0", "d4", "d", "d11", "D1", "h1", "c1", 1, ["d1"], ("d1",), "d1\n"):
            with self.assertRaises(NoActor) as caught:
                Desk(name)
            self.assertEqual(kinds(caught.exception.name), kinds(name))

    def test_a_deed_is_taken(self):
        desk = self.desk(deed(7, 1, "pay", 30))
        self.stands(desk, (), ((7, 1),))
        self.says(desk, ("h5", 1, PAY))

    def test_a_deed_is_decided(self):
        desk = self.desk(deed(7, 1, "pay", 30), ("got", "h5", 1), told("h5", 1, (7, 1), None, None))
        self.stands(desk, (((7, 1), ("pay", 30), ("done",)),), ())
        self.says(desk, ("h5", 2, ("end", (7, 1), ((PAID, 30), (PURSE, 30)))), ("h5", 0, ("got", 1)),
                  ("c7", 1, ("answer", ("done",))))

    def test_a_deed_that_is_refused_at_once(self):
        desk = self.desk(deed(7, 1, "rate", 5))
        self.stands(desk, (((7, 1), ("rate", 5), ("refused", "right")),), ())
        self.says(desk, ("c7", 1, ("answer", ("refused", "right"))))

    def test_an_order_goes_from_house_to_house(self):
        order = (1, "order", 7, 1)
        desk = self.desk(("deed", 7, 1, ORDER))
        office = ("ask", (7, 1), ((order, "own", 0), ((1, "price", "tea"), "see", 0), ((1, "rate"), "see", 0)))
        self.says(desk, ("h1", 1, office))
        self.takes(desk, told("h1", 1, (7, 1), None, 30, 0))
        second = ("ask", (7, 1), (((2, "free", "tea"), "take", 2), ((2, "held", "tea"), "add", 0)))
        self.says(desk, ("h1", 1, office), ("h1", 0, ("got", 1)), ("h2", 1, second))
        self.takes(desk, ("got", "h1", 1), told("h2", 1, (7, 1), 0, None), ("got", "h2", 1))
        self.stands(desk, (), ((7, 1),))
        third = ("ask", (7, 1), (((3, "free", "tea"), "take", 2), ((3, "held", "tea"), "add", 0)))
        self.says(desk, ("h1", 0, ("got", 1)), ("h2", 0, ("got", 1)), ("h3", 1, third))
        self.takes(desk, told("h3", 1, (7, 1), 2, None))
        desk.fall()
        desk.close()
        self.assertEqual(desk.letters()[-1], ("h5", 1, ("ask", (7, 1), (((5, "kept"), "add", 0), (PURSE, "take", 60)))))
        self.takes(desk, told("h5", 1, (7, 1), None, 60))
        self.stands(desk, (((7, 1), ORDER, ("promised", 60, ((3, "tea", 2),))),), ())
        # Each house that was asked gets its end, store 2 one without writes, and store 4 none.
        self.says(
            desk, ("h1", 2, ("end", (7, 1), ((order, RECORD),))), ("h1", 0, ("got", 1)),
            ("h2", 2, ("end", (7, 1), ())), ("h2", 0, ("got", 1)),
            ("h3", 1, third), ("h3", 2, ("end", (7, 1), (((3, "free", "tea"), -2), ((3, "held", "tea"), 2)))),
            ("h3", 0, ("got", 1)),
            ("h5", 1, ("ask", (7, 1), (((5, "kept"), "add", 0), (PURSE, "take", 60)))),
            ("h5", 2, ("end", (7, 1), (((5, "kept"), 60), (PURSE, -60)))), ("h5", 0, ("got", 1)),
            ("c7", 1, ("answer", ("promised", 60, ((3, "tea", 2),)))))

    def test_a_refused_deed_ends_without_writes(self):
        desk = self.desk(("deed", 7, 1, ORDER), told("h1", 1, (7, 1), None, None, 0))
        self.stands(desk, (((7, 1), ORDER, ("refused", "price")),), ())
        self.assertEqual(desk.letters()[1], ("h1", 2, ("end", (7, 1), ())))

    def test_which_deeds_are_taken(self):
        desk = self.desk()
        self.leaves(desk, deed(7, 0, "pay", 30), deed(7, 2, "pay", 30), deed(7, 999, "pay", 30))
        self.takes(desk, deed(7, 1, "pay", 30))
        self.leaves(desk, deed(7, 1, "pay", 30), deed(7, 1, "purse"), deed(7, 2, "purse"))
        self.takes(desk, told("h5", 1, (7, 1), None, None))
        self.leaves(desk, deed(7, 1, "pay", 30), deed(7, 3, "purse"), told("h5", 1, (7, 1), None, None))
        self.takes(desk, deed(7, 2, "purse"))
        self.leaves(desk, deed(7, 2, "purse"), deed(7, 3, "purse"))
        self.takes(desk, told("h5", 2, (7, 2), 30), deed(7, 3, "rate", 3), deed(7, 4, "rate", 3))
        self.stands(desk, (
            ((7, 1), ("pay", 30), ("done",)), ((7, 2), ("purse",), ("coins", 30)),
            ((7, 3), ("rate", 3), ("refused", "right")), ((7, 4), ("rate", 3), ("refused", "right"))), ())

    def test_customers_do_not_wait_for_one_another(self):
        desk = self.desk(deed(7, 1, "purse"), deed(1, 1, "purse"), deed(4, 1, "purse"), deed(0, 1, "rate", 5))
        self.stands(desk, (), ((0, 1), (1, 1), (4, 1), (7, 1)))
        self.leaves(desk, deed(4, 2, "purse"))
        self.takes(desk, told("h5", 1, (4, 1), 8), told("h5", 2, (7, 1), 9), deed(4, 2, "purse"))
        self.stands(desk, (((4, 1), ("purse",), ("coins", 8)), ((7, 1), ("purse",), ("coins", 9))),
                    ((0, 1), (1, 1), (4, 2)))

    def test_answers_are_said_by_ascending_customer_until_the_next_deed(self):
        desk = self.desk(deed(9, 1, "rate", 5), deed(1, 1, "rate", 5), deed(0, 1, "purse"), deed(1, 2, "rate", 5))
        refused = ("answer", ("refused", "right"))
        self.says(desk, ("c0", 1, refused), ("c1", 2, refused), ("c9", 1, refused))
        self.takes(desk, deed(1, 3, "purse"))
        self.assertEqual(desk.letters()[1:], (("c0", 1, refused), ("c9", 1, refused)))
        self.takes(desk, told("h5", 1, (1, 3), 4))
        self.assertEqual(desk.letters()[-2:], (("c1", 3, ("answer", ("coins", 4))), ("c9", 1, refused)))

    def test_letters_again_and_too_early(self):
        desk = self.desk(deed(7, 1, "pay", 30))
        self.leaves(desk, told("h5", 2, (7, 1), None, None), told("h5", 0, (7, 1), None, None), ("got", "h5", 0),
                    ("got", "h1", 0))
        self.takes(desk, told("h5", 1, (7, 1), None, None))
        self.leaves(desk, told("h5", 1, (7, 1), None, None), told("h5", 3, (7, 1), None, None))
        self.takes(desk, ("got", "h5", 1))
        self.leaves(desk, ("got", "h5", 1), ("got", "h5", 0))
        self.takes(desk, ("got", "h5", 2))
        self.leaves(desk, ("got", "h5", 1), ("got", "h5", 2))

    def test_deeds_with_none_and_bools(self):
        desk = self.desk(("deed", 7, 1, ("order", (("cup", 1), ("tea", 999)), False, "gift")))
        desk.fall()
        self.assertEqual(kinds(desk.letters()[0][2][2]), kinds((
            ((1, "coupon", "gift"), "own", 0), ((1, "order", 7, 1), "own", 0), ((1, "price", "cup"), "see", 0),
            ((1, "price", "tea"), "see", 0), ((1, "rate"), "see", 0))))
        self.takes(desk, told("h1", 1, (7, 1), ("unused", 5), None, 1, None, 0))
        self.stands(desk, (((7, 1), ("order", (("cup", 1), ("tea", 999)), False, "gift"), ("refused", "price")),), ())


class WalkTest(DeskTest):

    def test_deeds_go_as_their_scripts_say(self):
        decided = 0
        for seed in range(12):
            for name, events in Walk(seed).all_events().items():
                if name[0] == "d":
                    decided += self.check_events(Desk(name), events)
        self.assertGreater(decided, 60)

    def check_events(self, desk, events):
        """What a desk sends, decides and has open, told once more from what it took."""
        sent, deeds, rows, decided = [], {}, {}, []
        for event in events:
            if not desk.handle(event) or event[0] == "got":
                continue
            if event[0] == "deed":
                deed_id, rows[event[1:3]] = event[1:3], []
                deeds[deed_id] = event[3]
            else:
                deed_id = event[3][1]
                rows[deed_id].append(event[3][2])
            step = next_step(deed_id, deeds[deed_id], rows[deed_id])
            if step[0] == "ask":
                sent.append((f"h{step[1]}", ("ask", deed_id, step[2])))
            else:
                asked = [house for house, body in sent if body[1] == deed_id]
                sent += [(house, ("end", deed_id, tuple([row for row in step[1] if row[0][0] == int(house[1])])))
                         for house in asked]
                decided.append((deed_id, deeds[deed_id], step[2]))
            open_deeds = sorted(set(deeds) - {row[0] for row in decided})
            self.stands(desk, tuple(decided), tuple(open_deeds))
            for house in ("h1", "h2", "h3", "h4", "h5"):
                line, bodies = desk.line(house), [body for name, body in sent if name == house]
                self.assertEqual(line.sent, len(bodies))
                self.assertEqual([body for _, body in line], bodies[len(bodies) - len(line):])
        return len(decided)


if __name__ == "__main__":
    unittest.main()
