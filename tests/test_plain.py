import collections
import random
import unittest

from oncecoin.codec import is_plain
from oncecoin.errors import InvalidDeed, NoKey, ShopError, Twice
from oncecoin.forms import is_amount, is_deed, is_key
from oncecoin.plain import PlainBook
from oncecoin.scripts import next_step
from tests.helper import ODD_VALUES, kinds
from tests.model import Shop, some_deeds

START = (
    ((1, "coupon", "gift"), ("unused", 5)), ((1, "price", "tea"), 30), ((1, "rate"), 70),
    ((2, "came", "tea"), 5), ((2, "free", "tea"), 5), ((5, "paid"), 100), ((5, "purse", 7), 100),
)


def told(book):
    """All that a book says of itself."""
    return (book.all_values(), len(book), list(book))


class NewBookTest(unittest.TestCase):

    def test_an_empty_book(self):
        for book in (PlainBook(), PlainBook(start=()), PlainBook(start=[])):
            self.assertEqual(kinds(book.all_values()), kinds(()))
            self.assertEqual(len(book), 0)
            self.assertEqual(list(book), [])
            self.assertEqual(book.value((2, "free", "tea")), 0)
            self.assertEqual(book.value((1, "rate")), 0)
            self.assertIsNone(book.value((1, "price", "tea")))
            self.assertIsNone(book.value((1, "order", 9, 999)))

    def test_a_start(self):
        for start in (START, list(START), [list(pair) for pair in START], START[::-1]):
            book = PlainBook(start=start)
            self.assertEqual(kinds(book.all_values()), kinds(START))
            self.assertEqual(len(book), 0)
            self.assertEqual(book.value((1, "coupon", "gift")), ("unused", 5))
            self.assertEqual(book.value((5, "purse", 7)), 100)
            self.assertEqual(book.value((5, "purse", 8)), 0)

    def test_amounts_of_a_start_may_be_great_and_below_nothing(self):
        start = (((2, "came", "tea"), -900000000), ((2, "out", "tea"), -900000000),
                 ((5, "paid"), 900000000), ((5, "purse", 1), 900000000))
        book = PlainBook(start=start)
        self.assertEqual(book.all_values(), start)
        self.assertEqual(book.do((1, 1), ("pay", 99999)), ("done",))
        self.assertEqual(book.value((5, "purse", 1)), 900099999)

    def test_a_start_is_passed_by_its_name_alone(self):
        with self.assertRaises(TypeError):
            PlainBook(START)

    def test_later_changes_to_a_start_have_no_effect(self):
        start = [[key, value] for key, value in START]
        book = PlainBook(start=start)
        start[2][1] = 40
        start.append([(5, "till"), 3])
        self.assertEqual(book.all_values(), START)

    def test_a_start_stays_as_it_was(self):
        start = [[key, value] for key, value in START]
        book = PlainBook(start=start)
        book.do((7, 1), ("order", (("tea", 2),), True, "gift"))
        self.assertEqual(kinds(start), kinds([[key, value] for key, value in START]))
        self.assertNotEqual(book.all_values(), START)
        self.assertEqual(PlainBook(start=START).all_values(), START)


class DoTest(unittest.TestCase):

    def test_the_example_of_the_document(self):
        book = PlainBook()
        self.assertEqual(book.do((0, 1), ("price", "tea", 30)), ("done",))
        self.assertEqual(book.do((0, 2), ("stock", 3, "tea", 5)), ("done",))
        self.assertEqual(book.do((7, 1), ("pay", 100)), ("done",))
        self.assertEqual(book.do((7, 2), ("order", (("tea", 2),), True, None)), ("promised", 60, ((3, "tea", 2),)))
        self.assertEqual(
            (book.value((5, "purse", 7)), book.value((3, "free", "tea")), book.value((3, "held", "tea"))), (40, 3, 2))
        self.assertEqual(kinds(book.all_values()), kinds((
            ((1, "order", 7, 2), (((3, "tea", 2, 30, "held", 0),), 60, 60, 0, 0)), ((1, "price", "tea"), 30),
            ((3, "came", "tea"), 5), ((3, "free", "tea"), 3), ((3, "held", "tea"), 2),
            ((5, "kept"), 60), ((5, "paid"), 100), ((5, "purse", 7), 40),
        )))
        self.assertEqual(len(book), 4)
        self.assertEqual(list(book), [(0, 1), (0, 2), (7, 1), (7, 2)])

    def test_an_order_from_its_promise_to_its_return(self):
        book = PlainBook(start=START)
        answers = [book.do(deed_id, deed) for deed_id, deed in (
            ((0, 1), ("stock", 4, "tea", 2)),
            ((7, 1), ("pay", 200)),
            ((7, 2), ("order", (("tea", 7),), True, "gift")),
            ((0, 2), ("send", (7, 2), 2)),
            ((7, 3), ("back", (7, 2), 3, "tea", 4)),
            ((7, 4), ("cancel", (7, 2))),
            ((7, 5), ("look", (7, 2))),
            ((7, 6), ("purse",)),
        )]
        # 7 * 30 - 5 = 205, and 14 of tax; 5 of 7 pieces are charged, 4 of 7 are given back.
        record = (((2, "tea", 5, 30, "sent", 4), (4, "tea", 2, 30, "freed", 0)), 210, 219, 156, 125)
        self.assertEqual(kinds(answers), kinds([
            ("done",), ("done",), ("promised", 219, ((2, "tea", 5), (4, "tea", 2))), ("sent", (("tea", 5),), 156),
            ("given", 125), ("freed", 63), ("shows", record), ("coins", 300 - 219 + 125 + 63),
        ]))
        self.assertEqual(book.all_values(), (
            ((1, "coupon", "gift"), ("spent", 7, 2)), ((1, "order", 7, 2), record), ((1, "price", "tea"), 30),
            ((1, "rate"), 70), ((2, "came", "tea"), 5), ((2, "out", "tea"), 5), ((3, "free", "tea"), 4),
            ((3, "out", "tea"), -4), ((4, "came", "tea"), 2), ((4, "free", "tea"), 2), ((5, "paid"), 300),
            ((5, "purse", 7), 269), ((5, "till"), 31),
        ))

    def test_goods_on_the_road(self):
        book = PlainBook(start=START)
        self.assertEqual(book.do((0, 9), ("move", 2, "tea", 4)), ("done",))
        self.assertEqual(book.value((1, "road", 0, 9)), ("tea", 4))
        self.assertEqual(book.do((0, 3), ("count", "tea")), ("counts", 4, ((1, 0), (0, 0), (0, 0))))
        self.assertEqual(book.do((0, 4), ("move", 2, "tea", 2)), ("refused", "stock"))
        self.assertEqual(book.do((0, 5), ("arrive", (0, 9), 4, "cup")), ("refused", "road"))
        self.assertEqual(book.do((0, 6), ("arrive", (0, 4), 4, "tea")), ("refused", "road"))
        self.assertEqual(book.do((0, 7), ("arrive", (0, 9), 4, "tea")), ("done",))
        self.assertEqual(book.do((0, 8), ("arrive", (0, 9), 4, "tea")), ("refused", "road"))
        self.assertIsNone(book.value((1, "road", 0, 9)))
        self.assertEqual(book.do((0, 10), ("count", "tea")), ("counts", 0, ((1, 0), (0, 0), (4, 0))))
        self.assertEqual(list(book), [(0, 9), (0, 3), (0, 4), (0, 5), (0, 6), (0, 7), (0, 8), (0, 10)])

    def test_what_becomes_first_again_is_not_listed(self):
        book = PlainBook()
        for number, deed in enumerate((("pay", 5), ("draw", 5))):
            self.assertEqual(book.do((3, 1 + number), deed), ("done",))
        for number, deed in enumerate((("rate", 5), ("rate", 0))):
            self.assertEqual(book.do((0, 1 + number), deed), ("done",))
        self.assertEqual(book.all_values(), ())
        self.assertEqual(book.do((0, 3), ("price", "tea", 0)), ("done",))
        self.assertEqual(book.all_values(), (((1, "price", "tea"), 0),))

    def test_takes_are_the_least_of_both(self):
        for purse, coins, answer in ((100, 99, "done"), (100, 100, "done"), (100, 101, "refused"), (0, 1, "refused")):
            book = PlainBook(start=(((5, "paid"), purse), ((5, "purse", 1), purse)))
            self.assertEqual(book.do((1, 1), ("draw", coins))[0], answer)
            self.assertEqual(book.value((5, "purse", 1)), purse - coins if answer == "done" else purse)

    def test_a_refused_deed_changes_no_value_but_was_done(self):
        book = PlainBook(start=START)
        for deed_id, deed, word in (
                ((7, 1), ("rate", 5), "right"), ((0, 1), ("purse",), "right"), ((7, 2), ("look", (6, 1)), "right"),
                ((7, 3), ("order", (("cup", 1),), True, None), "price"),
                ((7, 4), ("order", (("cup", 1), ("tea", 9)), True, "bonus"), "price"),
                ((7, 5), ("order", (("tea", 9),), True, "bonus"), "coupon"),
                ((7, 6), ("order", (("tea", 6),), True, "gift"), "stock"),
                ((7, 7), ("order", (("tea", 4),), True, "gift"), "coins"), ((0, 2), ("coupon", "gift", 5), "coupon"),
                ((7, 8), ("cancel", (7, 7)), "order"), ((0, 3), ("send", (7, 7), 2), "order"),
                ((7, 9), ("back", (7, 7), 2, "tea", 1), "order")):
            self.assertEqual(kinds(book.do(deed_id, deed)), kinds(("refused", word)), deed)
            self.assertEqual(book.all_values(), START)
            self.assertEqual(list(book)[-1], deed_id)
            with self.assertRaises(Twice):
                book.do(deed_id, deed)
        self.assertEqual(len(book), 12)


class ErrorTest(unittest.TestCase):

    def test_no_deeds(self):
        book = PlainBook(start=START)
        before = told(book)
        near = (("price", "tea"), ["purse"], ("pay", 0), ("order", [("tea", 1)], True, None), ("purse", 1),
                ("order", (("tea", 1), ("cup", 1)), True, None), ("stock", 1, "tea", 1), ("rate", True))
        for deed in ODD_VALUES + near:
            self.assertFalse(is_deed(deed))
            with self.assertRaises(InvalidDeed) as caught:
                book.do((7, 1), deed)
            self.assertEqual(kinds(caught.exception.deed), kinds(deed))
            self.assertEqual(told(book), before)

    def test_twice(self):
        book = PlainBook()
        book.do((7, 1), ("pay", 5))
        book.do((7, 3), ("draw", 50))
        before = told(book)
        for deed_id in ((7, 1), (7, 3)):
            for deed in (("pay", 5), ("draw", 50), ("purse",), ("rate", 3)):
                with self.assertRaises(Twice) as caught:
                    book.do(deed_id, deed)
                self.assertEqual(kinds(caught.exception.deed_id), kinds(deed_id))
                self.assertEqual(told(book), before)
        self.assertEqual(book.do((7, 2), ("purse",)), ("coins", 5))
        self.assertEqual(book.do((1, 7), ("purse",)), ("coins", 0))

    def test_no_deed_comes_ahead_of_twice(self):
        book = PlainBook()
        book.do((7, 1), ("pay", 5))
        with self.assertRaises(InvalidDeed):
            book.do((7, 1), ("pay", 0))

    def test_a_deed_that_was_none_may_be_done_in_its_place(self):
        book = PlainBook()
        with self.assertRaises(ShopError):
            book.do((7, 1), ("pay", 0))
        self.assertEqual(book.do((7, 1), ("pay", 1)), ("done",))

    def test_no_keys(self):
        book = PlainBook(start=START)
        before = told(book)
        near = ((2, "price", "tea"), (1, "rate", "tea"), (5, "purse", 0), [5, "kept"], (1, "free", "tea"),
                (True, "rate"), (5, "purse", True), (1, "order", (7, 2)), (2, "free", "Tea"))
        for key in ODD_VALUES + near:
            self.assertFalse(is_key(key))
            with self.assertRaises(NoKey) as caught:
                book.value(key)
            self.assertEqual(kinds(caught.exception.key), kinds(key))
            self.assertEqual(told(book), before)


class IterationTest(unittest.TestCase):

    def test_an_iteration_gives_what_was_done_when_it_began(self):
        book = PlainBook()
        book.do((7, 1), ("pay", 5))
        book.do((3, 1), ("pay", 5))
        found = []
        for deed_id in book:
            found.append(deed_id)
            book.do((deed_id[0], 2), ("purse",))
        self.assertEqual(found, [(7, 1), (3, 1)])
        self.assertEqual(list(book), [(7, 1), (3, 1), (7, 2), (3, 2)])
        self.assertEqual(list(book), list(book))


class WalkTest(unittest.TestCase):
    """Many deeds in a row, against a shop that is written in another way."""

    def walks(self):
        for seed in range(300):
            yield some_deeds(random.Random(seed), 40)

    def test_answers_and_values_are_those_of_the_model(self):
        words = collections.Counter()
        for rows in self.walks():
            book, again, shop = PlainBook(), PlainBook(), Shop()
            for deed_id, deed in rows:
                answer = book.do(deed_id, deed)
                self.assertEqual(kinds(answer), kinds(shop.do(deed_id, deed)), (deed_id, deed))
                self.assertEqual(kinds(again.do(deed_id, deed)), kinds(answer))
                self.assertEqual(kinds(book.all_values()), kinds(shop.pairs()), (deed_id, deed))
                words[deed[0], answer[1] if answer[0] == "refused" else answer[0]] += 1
            self.assertEqual(list(book), [deed_id for deed_id, _ in rows])
            self.assertEqual(len(book), len(rows))
            self.assertEqual(kinds(PlainBook(start=book.all_values()).all_values()), kinds(book.all_values()))
        for row in (("order", "promised"), ("order", "price"), ("order", "coupon"), ("order", "stock"),
                    ("order", "coins"), ("send", "sent"), ("send", "order"), ("send", "nothing"), ("cancel", "freed"),
                    ("cancel", "order"), ("cancel", "nothing"), ("back", "given"), ("back", "order"),
                    ("back", "nothing"), ("arrive", "done"), ("arrive", "road"), ("move", "done"), ("move", "stock"),
                    ("draw", "done"), ("draw", "coins"), ("coupon", "done"), ("coupon", "coupon"),
                    ("look", "shows"), ("look", "order"), ("purse", "coins"), ("count", "counts")):
            self.assertGreater(words[row], 20, row)

    def test_asks_and_ends_keep_their_forms(self):
        for rows in self.walks():
            book = PlainBook()
            for deed_id, deed in rows:
                self.check_script(book, deed_id, deed)
                book.do(deed_id, deed)

    def check_script(self, book, deed_id, deed):
        told_rows, asked = [], {}
        step = next_step(deed_id, deed, told_rows)
        houses = []
        while step[0] == "ask":
            self.assertTrue(is_plain(step))
            houses.append(step[1])
            keys = [key for key, _, _ in step[2]]
            self.assertEqual(keys, sorted(set(keys)))
            self.assertGreater(len(keys), 0)
            answers = []
            for key, mode, many in step[2]:
                self.assertTrue(is_key(key) and key[0] == step[1])
                self.assertIn(mode, ("see", "take", "add") if is_amount(key) else ("see", "own"))
                self.assertEqual(many > 0, mode == "take")
                value = book.value(key)
                answers.append({"see": value, "own": value, "take": min(many, value) if many else 0, "add": None}[mode])
                asked[key] = (mode, answers[-1])
            told_rows.append(tuple(answers))
            step = next_step(deed_id, deed, told_rows)
        self.assertEqual(houses, sorted(set(houses)))
        self.assertTrue(is_plain(step))
        self.assertEqual((step[0], len(step)), ("done", 3))
        self.check_writes(step[1], asked)
        if step[2][0] == "refused":
            self.assertEqual((step[1], len(step[2])), ((), 2))

    def check_writes(self, writes, asked):
        keys = [key for key, _ in writes]
        self.assertEqual(keys, sorted(set(keys)))
        for key, what in writes:
            mode, answer = asked[key]
            self.assertNotEqual(mode, "see")
            if is_amount(key):
                self.assertNotEqual(what, 0)
            if mode == "take":
                self.assertTrue(-answer <= what <= 0)
            if mode == "add" and key[1] in ("free", "purse"):
                self.assertGreater(what, 0)

    def test_things_and_coins_stay(self):
        for rows in self.walks():
            book = PlainBook()
            for deed_id, deed in rows:
                book.do(deed_id, deed)
                sums = collections.Counter()
                for key, value in book.all_values():
                    if is_amount(key):
                        sums[key[1:] if key[0] < 5 else key[1]] += value
                        self.assertTrue(value > 0 or key[1] == "out" or key[1] == "paid")
                for item in ("ace", "cup", "tea"):
                    self.assertEqual(sums["came", item], sums["free", item] + sums["held", item] + sums["out", item]
                                     + sums["away", item])
                self.assertEqual(sums["paid"], sums["purse"] + sums["kept"] + sums["till"])


if __name__ == "__main__":
    unittest.main()
