import unittest

from oncecoin.counters import Counter
from oncecoin.errors import NoActor, NoKey
from oncecoin.houses import House
from tests.helper import ODD_VALUES, kinds
from tests.walks import START, Walk

FREE, HELD, CUP = (2, "free", "tea"), (2, "held", "tea"), (2, "free", "cup")


def ask(desk, number, deed_id, *requests):
    return ("letter", desk, number, ("ask", deed_id, requests))


def end(desk, number, deed_id, *writes):
    return ("letter", desk, number, ("end", deed_id, writes))


class HouseTest(unittest.TestCase):

    def store(self, *events):
        """Store 2 after these events, all of which it took."""
        house = House("h2", start=START)
        for event in events:
            self.assertIs(house.handle(event), True, event)
        return house

    def says(self, house, *letters):
        self.assertEqual(kinds(house.letters()), kinds(letters))

    def raises_no_key(self, house, key):
        with self.assertRaises(NoKey) as caught:
            house.value(key)
        self.assertEqual(kinds(caught.exception.key), kinds(key))

    def test_new_houses(self):
        for house in (1, 2, 3, 4, 5):
            for start in (START, list(START), [list(pair) for pair in START]):
                actor = House(f"h{house}", start=start)
                self.assertEqual(kinds(actor.all_values()), kinds(Counter(house, start=START).all_values()))
                self.assertNotEqual(actor.all_values(), ())
                self.assertEqual(kinds((actor.waiting(), actor.trace(), actor.letters())), kinds(((), (), ())))
            self.assertEqual(House(f"h{house}").all_values(), ())

    def test_no_actor(self):
        for name in ODD_VALUES + ("h0", "h6", "h", "h11", "H1", "d1", "c1", 1, ["h1"], ("h1",), "h1\n"):
            with self.assertRaises(NoActor) as caught:
                House(name, start=START)
            self.assertEqual(kinds(caught.exception.name), kinds(name))

    def test_a_start_is_passed_by_its_name_alone(self):
        with self.assertRaises(TypeError):
            House("h1", START)

    def test_later_changes_to_a_start_have_no_effect(self):
        start = [list(pair) for pair in START]
        house = House("h2", start=start)
        for pair in start:
            pair[1] = 1000
        start.clear()
        house.fall()
        self.assertEqual(house.all_values(), House("h2", start=START).all_values())

    def test_an_ask_is_granted(self):
        house = self.store(ask("d1", 1, (7, 2), (FREE, "take", 2), (HELD, "add", 0)))
        self.says(house, ("d1", 1, ("told", (7, 2), (2, None))), ("d1", 0, ("got", 1)))
        self.assertEqual(kinds(house.trace()), kinds((("granted", (7, 2)),)))
        self.assertEqual(house.waiting(), ())
        self.assertEqual(house.value(FREE), 9)

    def test_an_end_is_taken(self):
        house = self.store(ask("d1", 1, (7, 2), (FREE, "take", 2), (HELD, "add", 0)),
                           end("d1", 2, (7, 2), (FREE, -2), (HELD, 2)))
        self.says(house, ("d1", 1, ("told", (7, 2), (2, None))), ("d1", 0, ("got", 2)))
        self.assertEqual(kinds(house.trace()), kinds((("granted", (7, 2)), ("ended", (7, 2)))))
        self.assertEqual((house.value(FREE), house.value(HELD)), (7, 2))

    def test_an_acknowledgement_is_taken(self):
        house = self.store(ask("d1", 1, (7, 2), (FREE, "see", 0)), ask("d1", 2, (8, 2), (FREE, "see", 0)),
                           ("got", "d1", 1))
        self.says(house, ("d1", 2, ("told", (8, 2), (9,))), ("d1", 0, ("got", 2)))
        self.assertIs(house.handle(("got", "d1", 1)), False)
        self.assertIs(house.handle(("got", "d1", 2)), True)
        self.says(house, ("d1", 0, ("got", 2)))

    def test_letters_again_and_too_early(self):
        house = self.store()
        for number in (0, 2, 3):
            self.assertIs(house.handle(ask("d1", number, (7, 2), (FREE, "see", 0))), False)
        self.says(house)
        self.assertIs(house.handle(ask("d1", 1, (7, 2), (FREE, "see", 0))), True)
        for number in (0, 1, 3):
            self.assertIs(house.handle(ask("d1", number, (7, 2), (FREE, "see", 0))), False)
        self.says(house, ("d1", 1, ("told", (7, 2), (9,))), ("d1", 0, ("got", 1)))

    def test_an_ask_waits_and_its_own_desk_is_told(self):
        house = self.store(ask("d3", 1, (5, 1), (FREE, "take", 99)), ask("d1", 1, (6, 1), (FREE, "add", 0)),
                           ask("d2", 1, (4, 1), (CUP, "see", 0)), ask("d2", 2, (7, 1), (FREE, "take", 1)))
        self.assertEqual(kinds(house.waiting()), kinds(((6, 1), (7, 1))))
        self.says(house, ("d1", 0, ("got", 1)), ("d2", 1, ("told", (4, 1), (4,))), ("d2", 0, ("got", 2)),
                  ("d3", 1, ("told", (5, 1), (9,))), ("d3", 0, ("got", 1)))
        house.fall()
        house.close()
        self.assertIs(house.handle(end("d3", 2, (5, 1), (FREE, -9))), True)
        self.assertEqual(house.waiting(), ((7, 1),))
        self.says(house, ("d1", 1, ("told", (6, 1), (None,))), ("d1", 0, ("got", 1)),
                  ("d2", 1, ("told", (4, 1), (4,))), ("d2", 0, ("got", 2)),
                  ("d3", 1, ("told", (5, 1), (9,))), ("d3", 0, ("got", 2)))
        self.assertIs(house.handle(end("d1", 2, (6, 1), (FREE, 3))), True)
        self.assertEqual(house.letters()[2:4], (("d2", 1, ("told", (4, 1), (4,))), ("d2", 2, ("told", (7, 1), (1,)))))
        self.assertEqual(kinds(house.trace()), kinds((
            ("granted", (5, 1)), ("granted", (4, 1)), ("ended", (5, 1)), ("granted", (6, 1)), ("ended", (6, 1)),
            ("granted", (7, 1)))))

    def test_lines_to_unlike_desks_are_counted_apart(self):
        house = self.store(*[ask(f"d{desk}", 1, (desk, 1), (FREE, "see", 0)) for desk in (3, 1, 2)])
        self.says(house, *[letter for desk in (1, 2, 3) for letter in (
            (f"d{desk}", 1, ("told", (desk, 1), (9,))), (f"d{desk}", 0, ("got", 1)))])

    def test_values(self):
        house = self.store()
        self.assertEqual(kinds((house.value(FREE), house.value(CUP), house.value(HELD))), kinds((9, 4, 0)))
        for key in ODD_VALUES + ((3, "free", "tea"), (5, "kept"), [2, "free", "tea"], (2, "price", "tea")):
            self.raises_no_key(house, key)

    def test_many_events_against_a_counter(self):
        for seed in range(8):
            walk = Walk(seed)
            for name, events in walk.all_events().items():
                if name[0] == "h":
                    self.check_events(House(name, start=walk.start), Counter(int(name[1]), start=walk.start), events)

    def check_events(self, house, counter, events):
        names = ("d1", "d2", "d3")
        got, heard = dict.fromkeys(names, 0), dict.fromkeys(names, 0)
        said, asker = {name: [] for name in names}, {}
        for event in events:
            desk, number = event[1:3]
            row = heard if event[0] == "got" else got
            news = number > row[desk] if event[0] == "got" else number == row[desk] + 1
            row[desk] = number if news else row[desk]
            if event[0] == "letter" and news:
                word, deed_id, rows = event[3]
                asker.setdefault(deed_id, desk)
                for one, answers in (counter.ask if word == "ask" else counter.end)(deed_id, rows):
                    said[asker[one]].append(("told", one, answers))
            self.assertIs(house.handle(event), news)
            letters = [(desk, 1 + at, body) for desk in names for at, body in enumerate(said[desk]) if at >= heard[desk]]
            letters += [(desk, 0, ("got", got[desk])) for desk in names if got[desk]]
            self.says(house, *sorted(letters, key=lambda letter: (letter[0], letter[1] == 0, letter[1])))
            self.assertEqual(kinds((house.all_values(), house.waiting(), house.trace())),
                             kinds((counter.all_values(), counter.waiting(), counter.trace())))


if __name__ == "__main__":
    unittest.main()
