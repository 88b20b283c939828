import collections
import copy
import random
import unittest

from oncecoin.counters import Counter
from oncecoin.errors import InvalidNumber, NoKey, NotGranted, ShopError, Twice
from oncecoin.forms import is_key
from oncecoin.steps import add, own, see, take
from tests.counter_model import KEYS, Clerk, some_requests, some_writes
from tests.helper import ODD_VALUES, kinds

FREE, HELD, CUP = (3, "free", "tea"), (3, "held", "tea"), (3, "free", "cup")
RATE, TEA, GIFT = (1, "rate"), (1, "price", "tea"), (1, "coupon", "gift")
START = (
    ((1, "coupon", "gift"), ("unused", 5)), ((1, "price", "tea"), 30), ((1, "rate"), 70),
    ((2, "came", "tea"), 5), ((2, "free", "tea"), 5), ((3, "came", "tea"), 5), ((3, "free", "tea"), 5),
    ((5, "paid"), 100), ((5, "purse", 7), 100),
)


def ids(many, first=1):
    """So many deed ids."""
    return [(customer % 9 + 1, first + customer // 9) for customer in range(many)]


def told(counter):
    """All that a counter says of itself."""
    return kinds((counter.all_values(), counter.waiting(), counter.granted(), counter.trace()))


class CounterTest(unittest.TestCase):

    def raises(self, error, name, given, counter, call):
        before = told(counter)
        with self.assertRaises(error) as caught:
            call()
        self.assertEqual(kinds(getattr(caught.exception, name)), kinds(given))
        self.assertIsInstance(caught.exception, ShopError)
        self.assertEqual(told(counter), before)

    def store(self):
        """Store 3 with 5 pieces of tea."""
        return Counter(3, start=START)


class NewCounterTest(CounterTest):

    def test_values_of_this_house_alone(self):
        for start in (START, list(START), [list(pair) for pair in START]):
            for house in (1, 2, 3, 4, 5):
                counter = Counter(house, start=start)
                ours = tuple([pair for pair in START if pair[0][0] == house])
                self.assertEqual(told(counter), kinds((ours, (), (), ())))

    def test_without_start(self):
        for counter in (Counter(5), Counter(5, start=()), Counter(5, start=[])):
            self.assertEqual(told(counter), kinds(((), (), (), ())))
            self.assertEqual(kinds(counter.value((5, "till"))), kinds(0))

    def test_values(self):
        counter = Counter(1, start=START)
        for key, value in ((GIFT, ("unused", 5)), (TEA, 30), (RATE, 70), ((1, "price", "cup"), None),
                           ((1, "order", 1, 1), None), ((1, "road", 0, 1), None), ((1, "away", "tea"), 0)):
            self.assertEqual(kinds(counter.value(key)), kinds(value))

    def test_no_house(self):
        for house in ODD_VALUES + (6, -5, "1", "h1", (1,), [1]):
            if kinds(house) == kinds(1):
                continue
            with self.assertRaises(InvalidNumber) as caught:
                Counter(house, start=START)
            self.assertEqual(kinds(caught.exception.number), kinds(house))

    def test_later_changes_to_a_start_have_no_effect(self):
        start = [list(pair) for pair in START]
        counter = Counter(3, start=start)
        start[6][1] = 50
        start.append([(3, "held", "tea"), 1])
        self.assertEqual(counter.all_values(), START[5:7])
        counter.ask((1, 1), (take(FREE, 3),))
        counter.end((1, 1), ((FREE, -3),))
        self.assertEqual(start[6], [FREE, 50])

    def test_a_start_is_passed_by_its_name_alone(self):
        with self.assertRaises(TypeError):
            Counter(3, START)


class GrantTest(CounterTest):
    """Which request can stand beside which grants on its key."""

    # On free tea, of which there are 5: requests that are granted one after another.
    STANDING = {
        "nothing": (), "see": (see(FREE),), "sees": (see(FREE), see(FREE)), "add": (add(FREE),),
        "adds": (add(FREE), add(FREE)), "ample": (take(FREE, 2),), "amples": (take(FREE, 2), take(FREE, 2)),
        "ample, add": (take(FREE, 2), add(FREE)), "add, ample": (add(FREE), take(FREE, 2)),
        "all": (take(FREE, 5),), "short": (take(FREE, 6),),
    }
    # What is asked then, and by what stands there its answer; where nothing is listed, it waits.
    ASKED = (
        (see(FREE), {"nothing": 5, "see": 5, "sees": 5}),
        (add(FREE), dict.fromkeys(("nothing", "add", "adds", "ample", "amples", "ample, add", "add, ample", "all"))),
        (take(FREE, 1), dict.fromkeys(("nothing", "add", "adds", "ample", "amples", "ample, add", "add, ample"), 1)),
        (take(FREE, 2), dict.fromkeys(("nothing", "add", "adds", "ample", "ample, add", "add, ample"), 2)),
        (take(FREE, 3), dict.fromkeys(("nothing", "add", "adds", "ample", "ample, add", "add, ample"), 3)),
        (take(FREE, 4), dict.fromkeys(("nothing", "add", "adds"), 4)),
        (take(FREE, 5), dict.fromkeys(("nothing", "add", "adds"), 5)),
        (take(FREE, 6), {"nothing": 5}),
        (take(FREE, 999), {"nothing": 5}),
    )

    def check(self, counter, standing, request, lets, answer):
        for deed_id, earlier in zip(ids(9), standing):
            self.assertEqual(len(counter.ask(deed_id, (earlier,))), 1)
        found = counter.ask((7, 7), (request,))
        self.assertEqual(kinds(found), kinds((((7, 7), (answer,)),) if lets else ()))
        self.assertEqual(kinds(counter.waiting()), kinds(() if lets else ((7, 7),)))
        self.assertEqual((7, 7) in counter.granted(), lets)
        self.assertEqual(("granted", (7, 7)) in counter.trace(), lets)

    def test_amounts(self):
        for request, answers in self.ASKED:
            for word, standing in self.STANDING.items():
                with self.subTest(request=request, standing=word):
                    self.check(self.store(), standing, request, word in answers, answers.get(word))

    def test_records(self):
        sees = {"nothing": (), "see": (see(TEA),), "sees": (see(TEA), see(TEA)), "own": (own(TEA),)}
        for request, letting in ((see(TEA), ("nothing", "see", "sees")), (own(TEA), ("nothing",))):
            for word, standing in sees.items():
                with self.subTest(request=request, standing=word):
                    self.check(Counter(1, start=START), standing, request, word in letting, 30)

    def test_answers_of_records(self):
        counter = Counter(1, start=START)
        self.assertEqual(kinds(counter.ask((1, 1), (own(GIFT), own((1, "order", 1, 1)), see(TEA), see(RATE)))),
                         kinds((((1, 1), (("unused", 5), None, 30, 70)),)))

    def test_a_take_of_nothing_that_is_there_is_short(self):
        counter = self.store()
        self.assertEqual(counter.ask((1, 1), (take(CUP, 1),)), (((1, 1), (0,)),))
        self.assertEqual(counter.ask((2, 1), (take(CUP, 1),)), ())
        self.assertEqual(counter.ask((3, 1), (add(CUP),)), ())
        self.assertEqual(counter.end((1, 1), ()), (((2, 1), (0,)),))

    def test_ample_takes_count_with_their_answers_until_they_end(self):
        counter = self.store()
        self.assertEqual(counter.ask((1, 1), (take(FREE, 3),)), (((1, 1), (3,)),))
        self.assertEqual(counter.ask((2, 1), (take(FREE, 2),)), (((2, 1), (2,)),))
        self.assertEqual(counter.ask((3, 1), (take(FREE, 1),)), ())
        # Only one piece was needed in the end, and the others are there again.
        self.assertEqual(counter.end((1, 1), ((FREE, -1),)), (((3, 1), (1,)),))
        self.assertEqual(counter.value(FREE), 4)
        self.assertEqual(counter.ask((4, 1), (take(FREE, 1),)), (((4, 1), (1,)),))
        self.assertEqual(counter.ask((5, 1), (take(FREE, 1),)), ())

    def test_adds_are_not_counted_ahead_of_their_end(self):
        counter = self.store()
        counter.ask((1, 1), (add(FREE),))
        self.assertEqual(counter.ask((2, 1), (take(FREE, 6),)), ())
        self.assertEqual(counter.end((1, 1), ((FREE, 4),)), (((2, 1), (6,)),))
        self.assertEqual(counter.ask((3, 1), (take(FREE, 3),)), (((3, 1), (3,)),))

    def test_several_keys_are_granted_together_or_not_at_all(self):
        counter = self.store()
        counter.ask((1, 1), (see(HELD),))
        self.assertEqual(counter.ask((2, 1), (take(FREE, 1), add(HELD))), ())
        self.assertEqual(counter.granted(), ((1, 1),))
        # Nothing stands on free, but the ask ahead of it waits for it.
        self.assertEqual(counter.ask((3, 1), (take(FREE, 1),)), ())
        self.assertEqual(counter.end((1, 1), ()), (((2, 1), (1, None)), ((3, 1), (1,))))
        self.assertEqual(counter.granted(), ((2, 1), (3, 1)))


class OrderTest(CounterTest):
    """Asks that wait behind one another."""

    def test_an_ask_does_not_pass_one_that_waits_for_one_of_its_keys(self):
        counter = Counter(1, start=START)
        counter.ask((1, 1), (see(RATE),))
        self.assertEqual(counter.ask((2, 1), (own(RATE),)), ())
        self.assertEqual(counter.ask((3, 1), (see(RATE),)), ())
        self.assertEqual(counter.ask((4, 1), (own(GIFT), see(RATE))), ())
        self.assertEqual(counter.ask((5, 1), (see(GIFT),)), ())
        self.assertEqual(counter.ask((6, 1), (see(TEA),)), (((6, 1), (30,)),))
        self.assertEqual(kinds(counter.waiting()), kinds(((2, 1), (3, 1), (4, 1), (5, 1))))
        self.assertEqual(kinds(counter.granted()), kinds(((1, 1), (6, 1))))

    def test_an_end_grants_several_in_the_order_of_the_row(self):
        counter = Counter(1, start=START)
        counter.ask((9, 1), (own(RATE),))
        for deed_id in ((8, 1), (2, 5), (5, 1), (2, 3)):
            self.assertEqual(counter.ask(deed_id, (see(RATE),)), ())
        self.assertEqual(counter.ask((1, 1), (own(RATE),)), ())
        self.assertEqual(counter.ask((1, 2), (see(RATE),)), ())
        self.assertEqual(
            kinds(counter.end((9, 1), ((RATE, 8),))),
            kinds((((8, 1), (8,)), ((2, 5), (8,)), ((5, 1), (8,)), ((2, 3), (8,)))))
        self.assertEqual(counter.waiting(), ((1, 1), (1, 2)))
        self.assertEqual(counter.granted(), ((2, 3), (2, 5), (5, 1), (8, 1)))
        self.assertEqual(counter.trace(), (
            ("granted", (9, 1)), ("ended", (9, 1)), ("granted", (8, 1)), ("granted", (2, 5)), ("granted", (5, 1)),
            ("granted", (2, 3))))

    def test_grants_of_one_pass_stand_in_the_way_of_later_ones(self):
        counter = self.store()
        counter.ask((1, 1), (take(FREE, 9),))
        for deed_id, request in (((2, 1), take(FREE, 3)), ((3, 1), add(FREE)), ((4, 1), take(FREE, 2)),
                                 ((5, 1), take(FREE, 1)), ((6, 1), add(FREE))):
            self.assertEqual(counter.ask(deed_id, (request,)), ())
        self.assertEqual(counter.end((1, 1), ()), (((2, 1), (3,)), ((3, 1), (None,)), ((4, 1), (2,))))
        self.assertEqual(counter.waiting(), ((5, 1), (6, 1)))
        self.assertEqual(counter.end((3, 1), ((FREE, 1),)), (((5, 1), (1,)), ((6, 1), (None,))))

    def test_what_waits_for_other_keys_is_passed(self):
        counter = self.store()
        counter.ask((1, 1), (see(FREE),))
        counter.ask((2, 1), (add(FREE), add(HELD)))
        self.assertEqual(counter.ask((3, 1), (add(CUP),)), (((3, 1), (None,)),))
        self.assertEqual(counter.ask((4, 1), (see(CUP), see(HELD))), ())
        # It waits for cup and held, and so does whoever comes behind it.
        self.assertEqual(counter.ask((5, 1), (add(CUP),)), ())
        self.assertEqual(counter.end((3, 1), ((CUP, 2),)), ())
        self.assertEqual(counter.end((1, 1), ()), (((2, 1), (None, None)),))
        self.assertEqual(counter.end((2, 1), ((FREE, 1), (HELD, 1))), (((4, 1), (2, 1)),))
        self.assertEqual(counter.end((4, 1), ()), (((5, 1), (None,)),))

    def test_an_ask_can_grant_no_earlier_one(self):
        counter = self.store()
        counter.ask((1, 1), (see(FREE),))
        counter.ask((2, 1), (add(FREE),))
        self.assertEqual(counter.ask((3, 1), (add(HELD),)), (((3, 1), (None,)),))
        self.assertEqual(counter.waiting(), ((2, 1),))


class EndTest(CounterTest):

    def test_writes_are_carried_out(self):
        counter = self.store()
        counter.ask((1, 1), (take(FREE, 4), add(HELD)))
        self.assertEqual(kinds(counter.end((1, 1), ((FREE, -4), (HELD, 4)))), kinds(()))
        self.assertEqual(kinds(counter.all_values()), kinds(((START[5]), (FREE, 1), (HELD, 4))))
        counter = Counter(1, start=START)
        record = (((3, "tea", 1, 30, "held", 0),), 30, 30, 0, 0)
        counter.ask((7, 2), (own(GIFT), own((1, "order", 7, 2)), own(RATE), own((1, "road", 0, 5))))
        counter.end((7, 2), [(GIFT, ("spent", 7, 2)), ((1, "order", 7, 2), record), (RATE, 0)])
        self.assertEqual(kinds(counter.all_values()), kinds((
            (GIFT, ("spent", 7, 2)), ((1, "order", 7, 2), record), (TEA, 30))))

    def test_amounts_may_be_below_nothing_for_a_while(self):
        counter = self.store()
        counter.ask((1, 1), (add(HELD),))
        counter.end((1, 1), ((HELD, -3),))
        self.assertEqual(counter.value(HELD), -3)
        self.assertEqual(counter.ask((2, 1), (see(HELD),)), (((2, 1), (-3,)),))

    def test_no_writes(self):
        for writes in ((), []):
            counter = self.store()
            counter.ask((1, 1), (take(FREE, 9), see(HELD)))
            self.assertEqual(counter.end((1, 1), writes), ())
            self.assertEqual(told(counter), kinds((START[5:7], (), (), (("granted", (1, 1)), ("ended", (1, 1))))))

    def test_the_trace_has_ends_ahead_of_the_grants_that_they_let(self):
        counter = self.store()
        counter.ask((4, 1), (see(FREE),))
        counter.ask((2, 1), (add(FREE),))
        counter.ask((3, 1), (add(FREE),))
        counter.end((4, 1), ())
        counter.end((3, 1), ((FREE, 2),))
        self.assertEqual(kinds(counter.trace()), kinds((
            ("granted", (4, 1)), ("ended", (4, 1)), ("granted", (2, 1)), ("granted", (3, 1)), ("ended", (3, 1)))))


class ErrorTest(CounterTest):

    def busy(self):
        """Store 3, at which (1, 1) has ended, (2, 1) stands, and (3, 1) waits."""
        counter = self.store()
        counter.ask((1, 1), (take(FREE, 1),))
        counter.end((1, 1), ((FREE, -1),))
        counter.ask((2, 1), (take(FREE, 1), see(HELD)))
        counter.ask((3, 1), (see(FREE),))
        return counter

    def test_twice(self):
        for deed_id in ((1, 1), (2, 1), (3, 1)):
            counter = self.busy()
            for requests in ((), (add(FREE),), (see((3, "came", "tea")),), (see("odd"),)):
                self.raises(Twice, "deed_id", deed_id, counter, lambda: counter.ask(deed_id, requests))

    def test_no_key_in_an_ask(self):
        counter = self.busy()
        others = ((2, "free", "tea"), (5, "kept"), (1, "rate"), (4, "held", "tea"), (3, "rate"), [3, "free", "tea"],
                  (3, "free", "Tea"), (3, "away", "tea"), (3, "free"))
        for key in ODD_VALUES + others:
            for requests in ((see(key),), (see(FREE), see(key)), [add(key), see((2, "free", "tea"))],
                             [list(see(FREE)), list(see(key)), see("odd")]):
                self.raises(NoKey, "key", key, counter, lambda: counter.ask((7, 7), requests))
        self.assertEqual(counter.ask((7, 7), (see((3, "came", "tea")),)), (((7, 7), (5,)),))

    def test_keys_with_bools_are_none(self):
        counter = Counter(1, start=START)
        self.raises(NoKey, "key", (True, "rate"), counter, lambda: counter.ask((1, 1), (own((True, "rate")),)))
        counter.ask((1, 1), (own(RATE), own((1, "order", 1, 1))))
        self.raises(NoKey, "key", (True, "rate"), counter, lambda: counter.end((1, 1), (((True, "rate"), 5),)))
        self.raises(NoKey, "key", (1, "order", True, 1), counter,
                    lambda: counter.end((1, 1), (((1, "order", True, 1), None),)))
        self.raises(NoKey, "key", (1, "rate", 0), counter,
                    lambda: counter.end((1, 1), ((RATE, 5), ((1, "rate", 0), 5))))
        self.raises(NoKey, "key", (True, "rate"), counter,
                    lambda: counter.end((1, 1), (((1, "order", 1, 1), ((), 0, 0, 0, 0)), ((True, "rate"), 5))))
        self.raises(NoKey, "key", (True, "rate"), counter, lambda: counter.value((True, "rate")))

    def test_not_granted(self):
        counter = self.busy()
        for deed_id in ((1, 1), (3, 1), (4, 1), (2, 2)):
            for writes in ((), ((FREE, -1),), (("odd", 3),)):
                self.raises(NotGranted, "deed_id", deed_id, counter, lambda: counter.end(deed_id, writes))

    def test_no_key_in_an_end(self):
        counter = self.busy()
        for key in ODD_VALUES + (HELD, CUP, (2, "free", "tea"), [3, "free", "tea"], (3, "free", "teas")):
            for writes in (((key, -1),), ((FREE, -1), (key, -1)), [[key, -1], [HELD, 1]]):
                self.raises(NoKey, "key", key, counter, lambda: counter.end((2, 1), writes))
        self.assertEqual(counter.end((2, 1), ((FREE, -1),)), (((3, 1), (3,)),))

    def test_no_key_in_a_value(self):
        counter = self.busy()
        for key in ODD_VALUES + ((2, "free", "tea"), (5, "kept"), [3, "free", "tea"], (1, "price", "tea")):
            self.raises(NoKey, "key", key, counter, lambda: counter.value(key))

    def test_an_id_whose_ask_raised_may_ask(self):
        counter = self.store()
        with self.assertRaises(NoKey):
            counter.ask((1, 1), (see(FREE), see(RATE)))
        self.assertEqual(counter.ask((1, 1), (see(FREE),)), (((1, 1), (5,)),))


class ArgumentTest(CounterTest):

    def test_arguments_stay_and_their_later_changes_have_no_effect(self):
        counter = self.store()
        counter.ask((1, 1), (see(FREE),))
        requests = [[FREE, "take", 2], [HELD, "add", 0]]
        before = copy.deepcopy(requests)
        self.assertEqual(counter.ask((2, 1), requests), ())
        self.assertEqual(requests, before)
        requests[0][2] = 1
        requests[1][1] = "see"
        del requests[1]
        self.assertEqual(kinds(counter.end((1, 1), [])), kinds((((2, 1), (2, None)),)))
        writes = [[FREE, -2], [HELD, 2]]
        before = copy.deepcopy(writes)
        counter.end((2, 1), writes)
        self.assertEqual(writes, before)
        writes[0][1] = 7
        self.assertEqual(counter.value(FREE), 3)

    def test_earlier_results_stay(self):
        counter = self.store()
        counter.ask((1, 1), (see(FREE),))
        counter.ask((2, 1), (add(FREE),))
        results = (counter.all_values(), counter.waiting(), counter.granted(), counter.trace())
        before = kinds(results)
        counter.end((1, 1), ())
        counter.end((2, 1), ((FREE, 3),))
        self.assertEqual(kinds(results), before)


class WalkTest(CounterTest):
    """Many asks and ends, against a counter that is written in another way."""

    def walk(self, seed):
        draw = random.Random(seed)
        house = draw.choice((1, 3, 3, 5))
        start = tuple([(key, draw.randrange(1, 9)) for key in KEYS[house] if draw.random() < 0.7 and key[1] != "coupon"])
        counter, clerk, left = Counter(house, start=start), Clerk(house, start), ids(40)
        draw.shuffle(left)
        yield house, counter, clerk
        while left or counter.granted():
            standing = clerk.standing()
            ready = [deed_id for deed_id in standing if standing[deed_id]]
            if left and (not ready or draw.random() < 0.55):
                deed_id, requests = left.pop(), some_requests(draw, house)
                self.assertEqual(kinds(counter.ask(deed_id, requests)), kinds(clerk.ask(deed_id, requests)))
            else:
                deed_id = draw.choice(ready)
                writes = some_writes(draw, standing[deed_id])
                self.assertEqual(kinds(counter.end(deed_id, writes)), kinds(clerk.end(deed_id, writes)))
            yield house, counter, clerk

    def test_answers_and_values_are_those_of_the_model(self):
        modes = collections.Counter()
        for seed in range(120):
            for house, counter, clerk in self.walk(seed):
                standing = clerk.standing()
                self.assertEqual(told(counter), kinds((
                    clerk.pairs(), tuple([deed_id for deed_id, _ in clerk.row]),
                    tuple(sorted([deed_id for deed_id in standing if standing[deed_id]])), tuple(clerk.log))))
                for key in KEYS[house]:
                    self.assertTrue(is_key(key))
                    self.assertEqual(kinds(counter.value(key)), kinds(clerk.value(key)))
                modes.update([mode for rows in clerk.grants.values() for _, mode, _ in rows])
            self.assertEqual((counter.waiting(), counter.granted()), ((), ()))
        for mode in ("see", "own", "add", "ample", "short"):
            self.assertGreater(modes[mode], 200)

    def test_what_is_promised_is_there(self):
        """The sentences in bold of [20]."""
        for seed in range(120):
            for house, counter, clerk in self.walk(seed):
                for key in KEYS[house]:
                    if key[1] in ("free", "purse"):
                        self.assertGreaterEqual(counter.value(key), 0)
                        self.assertGreaterEqual(clerk.free_for_take(key), 0)
                if counter.waiting():
                    self.assertNotEqual(counter.granted(), ())


if __name__ == "__main__":
    unittest.main()
