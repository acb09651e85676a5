"""Promises [46] and [47]: firm rates, and the least joining price."""

import unittest

from fallsunder.booktext import read_book
from fallsunder.firm import cheaper_good, is_firm, least_joining
from fallsunder.rates import Rates
from fallsunder.ratios import Ratio
from fallsunder.stocks import Stock
from fallsunder.ways import cheapest
from tests.samples import book_from, fixed_random, goods_of, is_sound, small_stock, twin_stock, wide_stock

STOCK = Stock(["a", "b"], ["s", "t"], ["l", "k"], [("p", 1, 2, ["mix", "q"]), ("q", 1, 1, ["mix"])])
PAIRS = Stock(["a", "b"], ["s"], ["l"], [("p", 2, 2, ["mix"])])
BOOK = read_book(STOCK, "heading 1 is mix and over 1/2 a\nheading 2 is mix\nheading 3 is form q\nheading 4 is state s\n"
                        "heading 5 is any\nrules first")
TINY = Ratio(1, 10 ** 15)


def rates(book, prices, joining, finishing=None):
    """Rates with these prices for the leaves, and 0 for all other results."""
    rows = [(name, Ratio(0)) for name in ("none", "two", "ring")]
    rows += [(name, price if isinstance(price, Ratio) else Ratio(price)) for name, price in zip(book.leaves, prices)]
    return Rates(book, rows, joining=[(row[0], joining) for row in book.stock.forms], finishing=finishing)


class FirmTest(unittest.TestCase):
    def told(self, some):
        """None for firm rates, otherwise the nodes of the good that is told; it has a cheaper way."""
        good = cheaper_good(some)
        self.assertEqual(is_firm(some), good is None)
        if good is None:
            return None
        self.assertTrue(is_sound(good))
        self.assertTrue(cheapest(some, good)[1].less(some.duty(good)))
        return good.size

    def test_firm_with_and_without_finishing(self):
        for finishing, size in ((None, None), (Ratio(2), None), (Ratio(3), None), (Ratio(1), 2), (Ratio(0), 2)):
            self.assertEqual(self.told(rates(BOOK, (0, 0, 0, 3, 5), Ratio(9), finishing)), size)
        self.assertIsNone(self.told(rates(BOOK, (4, 4, 4, 4, 4), Ratio(0), Ratio(0))))
        some = rates(BOOK, (0, 0, 0, 3, 5), Ratio(9))
        some.finishing = Ratio(1, 2)
        self.assertFalse(is_firm(some))
        some.refinish(None)
        self.assertTrue(is_firm(some))

    def test_joining(self):
        self.assertEqual(self.told(rates(BOOK, (1, 1, 4, 4, 4), Ratio(3))), None)
        self.assertEqual(self.told(rates(BOOK, (1, 1, 4, 4, 4), Ratio(3) - TINY)), 2)
        # q is made of mixes that cost more; only a thing that has a q in it is cheaper joined
        self.assertEqual(self.told(rates(BOOK, (9, 9, 1, 6, 6), Ratio(4))), 3)
        self.assertEqual(self.told(rates(BOOK, (9, 9, 1, 6, 6), Ratio(5))), None)

    def test_a_huge_weight_on_one_side(self):
        """The parts must be of two kinds, and only where one weighs nearly all is the thing cheaper joined."""
        book = read_book(PAIRS, "heading 1 is mix and over 0/1 a\nheading 2 is mix\nheading 3 is some over 0/1 a and "
                                "some not over 0/1 a\nheading 4 is any\nrules first")
        some = rates(book, (1, 9, 3, 0), Ratio(2) - Ratio(1, 1000))
        self.assertEqual(self.told(some), 3)
        self.assertGreater(max(part.weight for part in cheaper_good(some)), 1000)
        self.assertIsNone(self.told(rates(book, (1, 9, 3, 0), Ratio(2))))
        self.assertEqual(least_joining(some), 2)

    def test_a_main_part_that_costs_more(self):
        """The main part weighs at least as much as the other one: a half is as much as the other one can be."""
        book = read_book(PAIRS, "heading 1 is mix and over 0/1 a\nheading 2 is mix\nheading 3 is main over 0/1 a and "
                                "some not over 0/1 a\nheading 4 is any\nrules first")
        self.assertEqual(least_joining(rates(book, (8, 2, 6, 0), Ratio(0))), 1)
        self.assertIsNone(self.told(rates(book, (8, 2, 6, 0), Ratio(1))))
        self.assertEqual(self.told(rates(book, (8, 2, 6, 0), Ratio(1) - TINY)), 3)

    def test_a_part_within_a_part(self):
        """Joined parts may be joined themselves; the least good is the part that is cheaper by itself."""
        some = rates(BOOK, (0, 0, 5, 5, 5), Ratio(1))
        self.assertEqual(self.told(some), 2)
        for good in goods_of(STOCK, 4, 1, ["l"]):
            if good.size == 3 and good.many == 1:
                self.assertTrue(cheapest(some, good)[1].less(some.duty(good)))

    def test_least_joining(self):
        self.assertEqual(least_joining(rates(BOOK, (1, 1, 4, 4, 4), Ratio(77), Ratio(0))), 3)
        self.assertEqual(least_joining(rates(BOOK, (4, 4, 4, 4, 4), Ratio(0))), 0)
        self.assertEqual(least_joining(rates(BOOK, (9, 9, 3, 2, 1), Ratio(0))), 0)
        self.assertEqual(least_joining(rates(BOOK, (Ratio(1, 3), Ratio(1, 7), 0, Ratio(1, 2), 0), Ratio(0))),
                         Ratio(1, 2))
        found = least_joining(rates(BOOK, (Ratio(1, 10 ** 19 + 1), 0, 0, 0, 0), Ratio(0)))
        self.assertIsInstance(found, Ratio)
        self.assertEqual(found, 0)

    def test_large_numbers(self):
        prices = [Ratio(10 ** 20 - k, 10 ** 20 - 3 * k - 1) for k in range(5)]
        some = rates(BOOK, prices, Ratio(0))
        least = least_joining(some)
        self.assertIsNone(self.told(some.with_joining(least)))
        self.assertIsNotNone(self.told(some.with_joining(least - Ratio(1, 10 ** 50))))

    def test_random_rates(self):
        rng = fixed_random(48)
        sizes, leasts = set(), set()
        three = Stock(["a", "b"], ["s", "t"], ["k"], [("p", 1, 4, ["mix", "q"]), ("q", 1, 2, ["q", "mix"])])
        for stock, size in ((small_stock(), 4), (wide_stock(), 3), (twin_stock(), 4), (three, 3), (STOCK, 4)):
            goods = goods_of(stock, size, 2, stock.lands[:1])
            for _ in range(14):
                book = book_from(stock, rng, 3, 2)
                rows = [(name, Ratio(rng.randint(0, 6), rng.randint(1, 3)))
                        for name in (*book.leaves, "none", "two", "ring")]
                most = rng.choice([0, 2, 5])
                some = Rates(book, rows, joining=[(row[0], Ratio(rng.randint(0, most), 2)) for row in stock.forms],
                             finishing=rng.choice([None, Ratio(1, 3), Ratio(2)]))
                told = self.told(some)
                sizes.add(told)
                for one in rng.sample(goods, min(120, len(goods))):
                    if cheapest(some, one)[1].less(some.duty(one)):
                        self.assertIsNotNone(told)
                        self.assertLessEqual(told, one.size)
                least = least_joining(some)
                leasts.add(str(least))
                self.assertIsNone(self.told(some.with_joining(least)))
                if least.top > 0:
                    self.assertIsNotNone(self.told(some.with_joining(least - TINY * least)))
        self.assertTrue({None, 2, 3} <= sizes and len(leasts) > 6, (sizes, leasts))


if __name__ == "__main__":
    unittest.main()
