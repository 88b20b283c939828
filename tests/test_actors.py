import random
import unittest

from oncecoin.actors import Actor
from oncecoin.codec import is_plain, read_value, write_value
from oncecoin.desks import Desk
from oncecoin.disks import Disk
from oncecoin.errors import BadBook, NoActor
from oncecoin.houses import House
from tests.helper import ODD_VALUES, kinds
from tests.walks import START, Walk

NAMES = ("h1", "h2", "h3", "h4", "h5", "d1", "d2", "d3")
PURSE, PAID = (5, "purse", 7), (5, "paid")

# Events of the bank and of a desk. Those of the second rows change nothing behind those of the first.
BANK_EVENTS = (
    ("letter", "d1", 1, ("ask", (7, 1), ((PAID, "add", 0), (PURSE, "add", 0)))),
    ("letter", "d2", 1, ("ask", (4, 1), (((5, "purse", 4), "see", 0),))),
    ("letter", "d1", 2, ("end", (7, 1), ((PAID, 30), (PURSE, 30)))),
    ("got", "d2", 1),
)
BANK_IDLE = BANK_EVENTS + (
    ("got", "d1", 0), ("got", "d3", 0), ("letter", "d1", 4, ("end", (7, 2), ())),
    ("letter", "d2", 3, ("end", (4, 1), ())),
)
DESK_EVENTS = (
    ("deed", 7, 1, ("pay", 30)), ("deed", 4, 1, ("rate", 5)), ("got", "h5", 1),
    ("letter", "h5", 1, ("told", (7, 1), (None, None))), ("deed", 4, 2, ("purse",)),
)
DESK_IDLE = DESK_EVENTS + (
    ("deed", 7, 3, ("purse",)), ("deed", 4, 3, ("purse",)), ("deed", 1, 2, ("purse",)), ("deed", 1, 0, ("purse",)),
    ("got", "h1", 0), ("got", "h5", 0), ("letter", "h5", 3, ("told", (4, 3), (5,))),
)
ROWS = (("h5", BANK_EVENTS, BANK_IDLE), ("d1", DESK_EVENTS, DESK_IDLE))


def made(name, start=()):
    return House(name, start=start) if name[0] == "h" else Desk(name)


def come_back(name, places):
    return (House if name[0] == "h" else Desk).come_back(name, places)


def told(actor):
    """All that an actor says of itself."""
    if actor.name[0] == "h":
        own = (actor.all_values(), actor.waiting(), actor.trace())
    else:
        own = (actor.decisions(), actor.open_deeds())
    return kinds((actor.name, actor.state(), actor.letters(), own))


def after(name, events, start=()):
    actor = made(name, start)
    for event in events:
        actor.handle(event)
    return actor


def drawn_rows(many):
    """(name, start, events): events that a run of a net brought to a house or desk."""
    for seed in range(many):
        walk = Walk(seed)
        for name, events in walk.all_events().items():
            yield name, walk.start, events


class ActorTest(unittest.TestCase):

    def test_houses_and_desks_are_actors(self):
        for name in NAMES:
            actor = made(name)
            self.assertIsInstance(actor, Actor)
            self.assertEqual(kinds(actor.name), kinds(name))
            self.assertIsInstance(actor.disk, Disk)
            for method in ("handle", "fall", "close"):
                self.assertIn(method, vars(Actor))

    def test_the_disk_of_a_new_actor(self):
        for start in ((), START):
            for name in NAMES:
                actor = made(name, start)
                self.assertTrue(is_plain(actor.state()))
                self.assertEqual(actor.disk.places(), Disk(write_value(actor.state())).places())
                self.assertEqual(kinds(actor.letters()), kinds(()))

    def test_recorded_events(self):
        for name, events, _ in ROWS:
            actor = made(name)
            head = actor.disk.head()
            for many, event in enumerate(events):
                before = actor.state()
                self.assertIs(actor.handle(event), True, event)
                self.assertNotEqual(actor.state(), before)
                self.assertEqual(actor.disk.records(), tuple([write_value(one) for one in events[:many + 1]]))
                self.assertEqual((actor.disk.head(), actor.disk.book), (head, 0))

    def test_events_that_change_nothing(self):
        for name, events, idle in ROWS:
            actor = after(name, events)
            before, places = told(actor), actor.disk.places()
            for event in idle:
                self.assertIs(actor.handle(event), False, event)
                self.assertEqual((told(actor), actor.disk.places()), (before, places))

    def test_events_that_change_nothing_with_a_cut(self):
        for name, events, idle in ROWS:
            for event in idle:
                for cut in (0, 1, 10, 1000):
                    actor = after(name, events)
                    before, places = told(actor), actor.disk.places()
                    self.assertIs(actor.handle(event, cut=cut), False)
                    self.assertEqual((told(actor), actor.disk.places()), (before, places))

    def test_the_cut_is_passed_by_its_name_alone(self):
        for name, events, _ in ROWS:
            with self.assertRaises(TypeError):
                made(name).handle(events[0], 3)
            with self.assertRaises(TypeError):
                made(name).close(3)

    def test_no_cut(self):
        for name, events, _ in ROWS:
            actor = made(name)
            self.assertIs(actor.handle(events[0], cut=None), True)
            self.assertIs(actor.close(cut=None), True)
            self.assertEqual((actor.disk.book, actor.disk.records()), (1, ()))


class CutTest(unittest.TestCase):

    def check_record(self, name, start, events, event):
        """A cut at each sign of the record of this event, behind those events."""
        before, whole = after(name, events, start), after(name, events + (event,), start)
        changes = before.state() != whole.state()
        for cut in range(len(write_value(event)) + 4):
            actor = after(name, events, start)
            reached = changes and cut > len(write_value(event))
            self.assertIs(actor.handle(event, cut=cut), reached)
            self.assertEqual(told(actor), told(whole if reached else before))
            self.assertEqual(actor.disk.places(), (whole if reached else before).disk.places())
            # The event comes again, and is taken now.
            self.assertIs(actor.handle(event), changes and not reached)
            self.assertEqual(told(actor), told(whole))

    def test_cuts_at_every_sign_of_a_record(self):
        for name, events, _ in ROWS:
            for many, event in enumerate(events):
                self.check_record(name, (), events[:many], event)

    def test_cuts_at_every_sign_of_a_drawn_record(self):
        for number, (name, start, events) in enumerate(drawn_rows(5)):
            many = random.Random(number).randrange(max(1, len(events)))
            for event in events[many:many + 1]:
                self.check_record(name, start, tuple(events[:many]), event)

    def check_head(self, name, start, events):
        """A cut at each sign of the head of a new book, behind these events."""
        before = after(name, events, start)
        line = f"1 {write_value(before.state())}\n"
        elder = before.disk.places()[0]
        for cut in list(range(0, len(line) - 40, 7)) + list(range(max(0, len(line) - 40), len(line) + 3)):
            actor = after(name, events, start)
            self.assertIs(actor.close(cut=cut), cut >= len(line))
            self.assertEqual(actor.disk.places(), (elder, line[:cut]))
            self.assertEqual(told(actor), told(before))
            self.assertEqual(actor.disk.book, 1 if cut >= len(line) else 0)
            self.assertIs(actor.close(), True)
            self.assertEqual(told(come_back(name, actor.disk.places())), told(before))

    def test_cuts_at_every_sign_of_a_head(self):
        for name, events, _ in ROWS:
            for many in range(len(events) + 1):
                self.check_head(name, (), events[:many])

    def test_cuts_at_every_sign_of_a_drawn_head(self):
        for number, (name, start, events) in enumerate(drawn_rows(3)):
            many = random.Random(number).randrange(len(events) + 1)
            self.check_head(name, start, tuple(events[:many]))


class FallTest(unittest.TestCase):

    def test_fall(self):
        for name, events, _ in ROWS:
            for many in range(len(events) + 1):
                actor, twin = after(name, events[:many]), after(name, events[:many])
                places = actor.disk.places()
                self.assertIsNone(actor.fall())
                self.assertEqual((told(actor), actor.disk.places()), (told(twin), places))

    def test_a_fall_cuts_off_a_torn_end(self):
        for name, events, _ in ROWS:
            actor, twin = after(name, events[:2]), after(name, events[:2])
            places = actor.disk.places()
            actor.disk.write(write_value(events[2]), cut=9)
            actor.fall()
            self.assertEqual((told(actor), actor.disk.places()), (told(twin), places))
            self.assertIs(actor.handle(events[2]), True)

    def test_close(self):
        for name, events, _ in ROWS:
            actor, twin = made(name), made(name)
            for many, event in enumerate(events):
                actor.handle(event)
                twin.handle(event)
                self.assertIs(actor.close(), True)
                self.assertEqual((actor.disk.book, actor.disk.records()), (many + 1, ()))
                self.assertEqual(actor.disk.head(), write_value(twin.state()))
                self.assertEqual(told(actor), told(twin))
                actor.fall()
                self.assertEqual(told(actor), told(twin))

    def test_a_close_with_a_cut_is_a_fall(self):
        for name, events, _ in ROWS:
            for cut in (0, 3, 100000):
                actor, twin = after(name, events[:2]), after(name, events[:2])
                actor.disk.write("(torn", cut=4)
                self.assertIs(actor.close(cut=cut), cut == 100000)
                head = f"1 {write_value(twin.state())}\n"
                torn = "(tor" if cut == 100000 else ""
                self.assertEqual(actor.disk.places(), (twin.disk.places()[0] + torn, head[:cut]))
                self.assertEqual(told(actor), told(twin))
                self.assertIs(actor.handle(events[2]), True)

    def test_falls_and_closings_change_nothing(self):
        """The sentence in bold of [25]."""
        for number, (name, start, events) in enumerate(drawn_rows(12)):
            draw = random.Random(number)
            actor, recorded = made(name, start), []
            for event in events:
                # What did not reach the disk comes once more, as its sender keeps it.
                for cut in draw.choice(((None,), (None,), (draw.randrange(200), draw.randrange(200), None))):
                    if actor.handle(event, cut=cut):
                        recorded.append(event)
                    if draw.random() < 0.05:
                        actor.fall()
                    if draw.random() < 0.05:
                        actor.close(cut=draw.choice((None, draw.randrange(3000))))
                    if draw.random() < 0.05:
                        actor = come_back(name, actor.disk.places())
            twin = made(name, start)
            for event in recorded:
                self.assertIs(twin.handle(event), True)
            self.assertEqual(told(actor), told(twin))
            self.assertEqual(twin.disk.records(), tuple([write_value(event) for event in recorded]))
            self.assertEqual(twin.disk.book, 0)

    def test_doubled_and_late_events_change_nothing(self):
        for number, (name, start, events) in enumerate(drawn_rows(4)):
            draw = random.Random(number)
            actor, twin, taken = made(name, start), made(name, start), []
            for event in events:
                if twin.handle(event):
                    taken.append(event)
                    self.assertIs(actor.handle(event), True)
                self.assertIs(actor.handle(event), False)
                if taken:
                    self.assertIs(actor.handle(draw.choice(taken)), False)
            self.assertEqual((told(actor), actor.disk.places()), (told(twin), twin.disk.places()))

    def test_the_head_tells_the_whole_state(self):
        for name, start, events in drawn_rows(3):
            actor = after(name, events, start)
            self.assertEqual(read_value(write_value(actor.state())), actor.state())
            again = come_back(name, ("", f"17 {write_value(actor.state())}\n"))
            self.assertEqual(told(again), told(actor))
            self.assertEqual(again.disk.book, 17)


class ComeBackTest(unittest.TestCase):

    def test_come_back(self):
        for name, events, _ in ROWS:
            for many in range(len(events) + 1):
                actor = after(name, events[:many])
                for places in (actor.disk.places(), list(actor.disk.places()), actor.disk.places()[::-1]):
                    again = come_back(name, places)
                    self.assertEqual(told(again), told(actor))
                    self.assertEqual(again.disk.places(), tuple(places))
                    for event in events[many:]:
                        self.assertIs(again.handle(event), True)
                    self.assertEqual(told(again), told(after(name, events)))
                    self.assertEqual(told(actor), told(after(name, events[:many])))

    def test_come_back_from_a_torn_end(self):
        for name, events, _ in ROWS:
            actor = after(name, events[:3])
            whole = actor.disk.places()[0]
            for cut in range(len(whole) - len(write_value(events[2])) - 1, len(whole)):
                again = come_back(name, (whole[:cut], ""))
                self.assertEqual(told(again), told(after(name, events[:2])))
                self.assertEqual(again.disk.places(), after(name, events[:2]).disk.places())
                self.assertIs(again.handle(events[2]), True)
                self.assertEqual(again.disk.places(), (whole, ""))

    def test_come_back_with_a_start(self):
        for name in NAMES[:5]:
            house = House(name, start=START)
            self.assertEqual(told(House.come_back(name, house.disk.places())), told(house))
            self.assertNotEqual(house.all_values(), ())

    def test_no_actor_comes_ahead_of_bad_book(self):
        for cls, others in ((House, ("d1", "h0", "h6", "H1", "h1 ", "c1", "h")), (Desk, ("h1", "d0", "d4", "D1", "c1"))):
            for name in ODD_VALUES + others:
                for places in (("", ""), ("0 a", "x"), Disk("a").places()):
                    with self.assertRaises(NoActor) as caught:
                        cls.come_back(name, places)
                    self.assertEqual(kinds(caught.exception.name), kinds(name))

    def test_bad_book(self):
        for name in NAMES:
            for first, second in (("", ""), ("0 a", ""), ("00 a\n", "x\n"), (write_value(made(name).state()), "")):
                for places in ((first, second), [first, second]):
                    with self.assertRaises(BadBook) as caught:
                        come_back(name, places)
                    self.assertEqual(kinds(caught.exception.texts), kinds((first, second)))


if __name__ == "__main__":
    unittest.main()
