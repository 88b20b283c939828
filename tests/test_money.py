import itertools
import unittest

from oncecoin.money import goods_value, share, shares, tax_of, total_of
from tests.helper import kinds

GREAT = 10 ** 60


class GoodsValueTest(unittest.TestCase):

    def test_ordinary(self):
        self.assertEqual(goods_value(((2, 30), (1, 7))), 67)
        self.assertEqual(goods_value([(2, 30), (1, 7)]), 67)
        self.assertEqual(goods_value([[2, 30], [1, 7]]), 67)

    def test_edges(self):
        self.assertEqual(goods_value(()), 0)
        self.assertEqual(goods_value([]), 0)
        self.assertEqual(goods_value(((0, 5), (5, 0), (0, 0))), 0)
        self.assertEqual(goods_value(((999, 99999), (999, 99999))), 2 * 999 * 99999)
        self.assertEqual(goods_value(((GREAT, GREAT),)), GREAT * GREAT)

    def test_the_pairs_stay_as_they_are(self):
        pairs = [[2, 30], (1, 7)]
        goods_value(pairs)
        self.assertEqual(kinds(pairs), kinds([[2, 30], (1, 7)]))


class TaxTest(unittest.TestCase):

    def test_ordinary(self):
        self.assertEqual(tax_of(1000, 190), 190)
        self.assertEqual(tax_of(60, 50), 3)

    def test_it_is_rounded_down(self):
        self.assertEqual([tax_of(amount, 999) for amount in (0, 1, 2, 1000, 1001)], [0, 0, 1, 999, 999])
        self.assertEqual([tax_of(amount, 1) for amount in (999, 1000, 1999, 2000)], [0, 1, 1, 2])

    def test_edges(self):
        self.assertEqual(tax_of(0, 0), 0)
        self.assertEqual(tax_of(GREAT, 0), 0)
        self.assertEqual(tax_of(GREAT, 1), GREAT // 1000)
        self.assertEqual(tax_of(7, 1000), 7)
        self.assertEqual(tax_of(7, GREAT), 7 * GREAT // 1000)


class TotalTest(unittest.TestCase):

    def test_ordinary(self):
        self.assertEqual(total_of(60, 0, 0), 60)
        self.assertEqual(total_of(60, 10, 0), 50)
        self.assertEqual(total_of(60, 10, 100), 55)

    def test_the_discount_takes_off_no_more_than_the_value(self):
        self.assertEqual([total_of(60, discount, 500) for discount in (59, 60, 61, GREAT)], [1, 0, 0, 0])

    def test_the_tax_is_on_what_is_left(self):
        self.assertEqual(total_of(1000, 1, 999), 999 + 998)
        self.assertEqual(total_of(1000, 0, 999), 1999)

    def test_edges(self):
        self.assertEqual(total_of(0, 0, 0), 0)
        self.assertEqual(total_of(0, 5, 999), 0)
        self.assertEqual(total_of(GREAT, 0, 0), GREAT)


class ShareTest(unittest.TestCase):

    def test_ordinary(self):
        self.assertEqual(share(100, 1, 4), 25)
        self.assertEqual(share(100, 2, 3), 66)

    def test_edges(self):
        self.assertEqual(share(100, 0, 4), 0)
        self.assertEqual(share(100, 4, 4), 100)
        self.assertEqual(share(0, 4, 4), 0)
        self.assertEqual(share(99, 1, 100), 0)
        self.assertEqual(share(100, 1, 100), 1)
        self.assertEqual(share(GREAT + 1, GREAT, GREAT), GREAT + 1)

    def test_no_whole(self):
        self.assertEqual(share(100, 0, 0), 0)
        self.assertEqual(share(0, 0, 0), 0)


class SharesTest(unittest.TestCase):

    def test_ordinary(self):
        self.assertEqual(shares(100, (1, 1, 1)), (33, 33, 34))
        self.assertEqual(shares(100, (3, 1)), (75, 25))
        self.assertEqual(shares(10, (1, 2, 3, 4)), (1, 2, 3, 4))

    def test_a_list_gives_a_tuple_too(self):
        parts = [1, 1, 1]
        self.assertEqual(kinds(shares(100, parts)), kinds((33, 33, 34)))
        self.assertEqual(kinds(parts), kinds([1, 1, 1]))

    def test_edges(self):
        self.assertEqual(shares(5, ()), ())
        self.assertEqual(kinds(shares(5, [])), kinds(()))
        self.assertEqual(shares(5, (0,)), (0,))
        self.assertEqual(shares(5, (0, 0, 0)), (0, 0, 0))
        self.assertEqual(shares(0, (1, 2)), (0, 0))
        self.assertEqual(shares(5, (7,)), (5,))
        self.assertEqual(shares(5, (0, 1, 0)), (0, 5, 0))
        self.assertEqual(shares(1, (1, 1, 1)), (0, 0, 1))
        self.assertEqual(shares(2, (1, 1, 1)), (0, 1, 1))
        self.assertEqual(shares(3 * GREAT, (1, 2)), (GREAT, 2 * GREAT))

    def test_they_are_shares_of_the_sums_so_far(self):
        for total, parts in itertools.product((0, 1, 7, 100), itertools.product((0, 1, 2, 5), repeat=4)):
            found = shares(total, parts)
            for upto in range(5):
                self.assertEqual(sum(found[:upto]), share(total, sum(parts[:upto]), sum(parts)), (total, parts))

    def test_they_add_up(self):
        for total, parts in itertools.product(range(12), itertools.product((0, 1, 3, 8), repeat=3)):
            self.assertEqual(sum(shares(total, parts)), total if any(parts) else 0, (total, parts))


if __name__ == "__main__":
    unittest.main()
