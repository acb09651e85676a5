"""Promise [40]: the far price from a leaf to a heading."""

import unittest

from fallsunder.booktext import read_book
from fallsunder.changes import least_change
from fallsunder.errors import NoWay
from fallsunder.farthest import far_price
from fallsunder.prices import Prices
from fallsunder.stocks import Stock
from tests.samples import book_from, caught, fixed_random, goods_of, is_sound, small_stock, twin_stock, wide_stock

STOCK, WIDE = small_stock(), wide_stock()
NEVER = 10 ** 9


def price_of(book, good, heading, prices):
    try:
        return least_change(book, good, heading, prices).price
    except NoWay:
        return NEVER


class FarTest(unittest.TestCase):
    def told(self, book, leaf, heading, prices):
        """`(price, nodes of the good)`; the good needs this price."""
        found = far_price(book, leaf, heading, prices)
        if found is None:
            return None
        price, good = found
        self.assertTrue(is_sound(good))
        self.assertEqual(book(good), leaf)
        self.assertEqual(price_of(book, good, heading, prices), NEVER if price is None else price)
        return (price, good.size)

    def test_leaves_and_headings(self):
        book = read_book(WIDE, "heading 1 is parts 1\nheading 1a under 1 is state worn\nheading 1b under 1 is any\n"
                               "heading 2 is any\nheading 3 is form ghost\nrules first")
        self.assertEqual(self.told(book, "1b", "1a", Prices(5, 1, 2)), (5, 2))
        self.assertEqual(self.told(book, "1b", "1", Prices(5, 1, 2)), (0, 2))
        self.assertEqual(self.told(book, "1a", "1a", Prices(5, 1, 2)), (0, 2))
        self.assertEqual(self.told(book, "2", "1a", Prices()), (None, 1))
        self.assertEqual(self.told(book, "1a", "2", Prices()), (None, 2))
        self.assertIsNone(self.told(book, "3", "1", Prices()))
        self.assertIsNone(self.told(book, "3", "3", Prices()))

    def test_errors(self):
        book = read_book(WIDE, "heading 1 is parts 1\nheading 1a under 1 is state worn\nheading 2 is any\nrules first")
        for leaf in ("1", "9", "", "none", "two"):
            for heading in ("1a", "8"):
                self.assertEqual(caught(lambda: far_price(book, leaf, heading, Prices())), ("NoHeading", leaf))
        for heading in ("8", "", "ring"):
            self.assertEqual(caught(lambda: far_price(book, "2", heading, Prices())), ("NoHeading", heading))

    def test_all_that_is_worn_within(self):
        """Goods in which something is worn must be restated node by node, or parts of them exchanged."""
        book = read_book(WIDE, "heading 1 is state worn\nheading 2 is any\nnote 1 takes some falls 1\nrules first")
        self.assertEqual(self.told(book, "1", "2", Prices(1, 1, 2)), (7, 10))
        self.assertEqual(self.told(book, "1", "2", Prices(3, 2, 40)), (123, 46))
        self.assertEqual(self.told(book, "1", "2", Prices(1, 1, 20)), (61, 64))
        self.assertEqual(self.told(book, "1", "2", Prices(0, 1, 20)), (0, 2))
        self.assertEqual(self.told(book, "1", "2", Prices(2, 0, 40)), (122, 64))
        self.assertEqual(self.told(book, "1", "2", Prices(1, 1, 0)), (1, 2))
        self.assertEqual(self.told(book, "2", "1", Prices(1, 1, 20)), (None, 1))

    def test_main_parts_one_below_another(self):
        stock = Stock(["a", "b"], ["s"], ["l"], [("p", 1, 2, ["p", "mix"])])
        book = read_book(stock, "heading 1 is over 1/2 a\nheading 2 is any\nrules first")
        # to be a thing of the stuff a, the row of main parts must be turned, or its head exchanged
        self.assertEqual(self.told(book, "2", "1", Prices(1, 1, 20)), (None, 1))
        things = read_book(stock, "heading 1 is mix or over 1/2 a\nheading 2 is any\nrules first")
        self.assertEqual(self.told(things, "2", "1", Prices(1, 1, 20)), (20, 2))
        self.assertEqual(self.told(things, "2", "1", Prices(1, 0, 20)), (20, 2))
        deep = read_book(stock, "heading 1 is mix or each mix\nheading 2 is over 1/2 a\nheading 3 is any\nrules first")
        self.assertEqual(self.told(deep, "3", "2", Prices(1, 3, 20)), (20, 3))

    def test_looks_at_great_depths(self):
        """Of parts the less is asked the deeper they lie."""
        for many, told in ((1, (3, 7)), (2, (6, 16)), (4, (6, 22)), (9, (6, 37))):
            book = read_book(WIDE, "heading 1 is " + "some " * many + "state worn\nheading 2 is any\nrules first")
            found = self.told(book, "1", "2", Prices(1, 1, 2))
            self.assertEqual(found[0], told[0])
            self.assertEqual(self.told(book, "2", "1", Prices(1, 1, 2))[0], None)
        book = read_book(WIDE, "heading 1 is some some some state worn\nheading 2 is any\nrules first")
        self.assertEqual(self.told(book, "1", "2", Prices(1, 1, 5))[0], 15)
        self.assertEqual(self.told(book, "1", "2", Prices(2, 1, 20))[0], 54)

    def test_random_far_prices(self):
        rng = fixed_random(41)
        met = set()
        for stock, size in ((STOCK, 4), (WIDE, 3), (twin_stock(), 4)):
            goods = goods_of(stock, size, 1, stock.lands[:1])
            for _ in range(9):
                book = book_from(stock, rng, 3, 2)
                prices = Prices(rng.choice([0, 1, 2, 3]), rng.choice([0, 1, 2]), rng.choice([0, 1, 2, 5]))
                some = rng.sample(goods, min(60, len(goods)))
                for leaf in book.leaves:
                    for heading in book:
                        told = self.told(book, leaf, heading, prices)
                        met.add(told and told[0])
                        for one in some:
                            if book(one) == leaf:
                                self.hold(told, price_of(book, one, heading, prices), one.size)
        self.assertTrue({0, 1, 2, None} <= met, met)

    def hold(self, told, price, size):
        """Does no good need more than was told, and none that needs as much have fewer nodes?"""
        self.assertIsNotNone(told)
        far = NEVER if told[0] is None else told[0]
        self.assertLessEqual(price, far)
        if price == far:
            self.assertLessEqual(told[1], size)


if __name__ == "__main__":
    unittest.main()
