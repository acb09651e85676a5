"""Promises [38] and [39]: prices of changes, and price tables."""

import itertools
import unittest

from fallsunder.booktext import read_book
from fallsunder.goods import Good
from fallsunder.goodtext import read_good
from fallsunder.papers import kind_of, marks, paper
from fallsunder.prices import Prices, price_table
from fallsunder.stocks import Stock
from tests.samples import (book_from, caught, fixed_random, goods_of, plain_main, plain_weight, slow_of, small_stock,
                           twin_stock, wide_stock)

STOCK, WIDE = small_stock(), wide_stock()


def scaled(plain, n):
    if plain[0] == "mix":
        return ("mix", plain[1], tuple((stuff, g * n) for stuff, g in plain[2]))
    return (*plain[:3], tuple(scaled(part, n) for part in plain[3]))


def with_main(head, parts, main):
    """A thing with this head and these parts, the main part made so heavy that it is the main part."""
    heaviest = max(plain_weight(part) for part in parts)
    parts = [scaled(part, heaviest // plain_weight(part) + 1) if k == main else part for k, part in enumerate(parts)]
    return (*head, tuple(parts))


def slow_changes(stock, plain, prices, pool, exchanged=True):
    """All changes of a good, rows (price, good afterwards), with exchanges by goods of a pool."""
    if plain[0] == "mix":
        return [(0, plain)]
    rows = []
    for part in plain[3]:
        own = slow_changes(stock, part, prices, pool)
        takes = stock[plain[0]][2]
        rows.append(own + [(prices.exchange, other) for other in pool if exchanged and other[0] in takes])
    out = []
    main = plain_main(plain)
    for choice in itertools.product(*rows):
        cost = sum(price for price, _ in choice)
        for state in stock.states:
            for k in range(len(choice)):
                more = (state != plain[1]) * prices.restate + (k != main) * prices.reweigh
                out.append((cost + more, with_main((plain[0], state, plain[2]), [part for _, part in choice], k)))
    return out


def nodes_at(plain, place=()):
    yield place, plain
    for k, part in enumerate(plain[3] if plain[0] != "mix" else ()):
        yield from nodes_at(part, (*place, k))


class PricesTest(unittest.TestCase):
    def test_prices(self):
        self.assertEqual((Prices().restate, Prices().reweigh, Prices().exchange), (1, 1, 2))
        some = Prices(0, 1000, exchange=7)
        self.assertEqual((some.restate, some.reweigh, some.exchange), (0, 1000, 7))
        self.assertEqual(Prices(3, exchange=5, reweigh=4).total(1, 10, 100), 543)
        self.assertEqual(Prices().total(0, 0, 0), 0)
        self.assertEqual(Prices(1, 1, 2), Prices())
        self.assertFalse(Prices(1, 1, 3) == Prices())
        self.assertFalse(Prices(2, 1, 2) == Prices() or Prices(1, 2, 2) == Prices())
        self.assertFalse(Prices() == (1, 1, 2))

    def test_bad_prices(self):
        for bad in (True, False, -1, 1001, "1", None, 1.0, (1,)):
            self.assertEqual(caught(lambda: Prices(bad, bad, bad)), ("BadPrices", "restate"))
            self.assertEqual(caught(lambda: Prices(0, bad, bad)), ("BadPrices", "reweigh"))
            self.assertEqual(caught(lambda: Prices(1000, 1000, bad)), ("BadPrices", "exchange"))
            self.assertEqual(caught(lambda: Prices(exchange=bad)), ("BadPrices", "exchange"))


class PriceTableTest(unittest.TestCase):
    BOOK = read_book(STOCK, "heading 1 is over 1/2 hair\nheading 2 is state worn\nheading 3 is any\nrules first")

    def test_a_mix(self):
        one = read_good(STOCK, "mix far 3 hair 2 wool")
        self.assertEqual(price_table(self.BOOK, one, Prices()), (((), ((("mix", (True,), ("1",)), 0),)),))

    def test_a_thing(self):
        one = read_good(STOCK, "coat whole far (mix far 2 hair, mix far 1 wool)")
        hair, worn, rest = [("coat", (True,), ("1",)), ("coat", (False,), ("2",)), ("coat", (False,), ("3",))]
        table = dict(price_table(self.BOOK, one, Prices(5, 3, 100)))
        self.assertEqual(list(table), [(), (0,), (1,)])
        self.assertEqual(table[()], ((worn, 8), (rest, 3), (hair, 0)))
        self.assertEqual(table[(0,)], ((("mix", (True,), ("1",)), 0),))
        self.assertEqual(table[(1,)], ((("mix", (False,), ("3",)), 0),))
        # an exchange of the main part may cost less than to reweigh
        self.assertEqual(dict(price_table(self.BOOK, one, Prices(5, 3, 2)))[()], ((worn, 7), (rest, 2), (hair, 0)))
        self.assertEqual(dict(price_table(self.BOOK, one, Prices(0, 3, 2)))[()], ((worn, 2), (rest, 2), (hair, 0)))
        self.assertEqual(dict(price_table(self.BOOK, one, Prices(5, 0, 2)))[()], ((worn, 5), (rest, 0), (hair, 0)))

    def test_kinds_that_cannot_be_had(self):
        one = read_good(STOCK, "button whole far (mix far 2 hair)")
        book = read_book(STOCK, "heading 1 is some form coat\nheading 2 is any\nrules first")
        self.assertEqual(dict(price_table(book, one, Prices()))[()], ((("button", (False,), ("2",)), 0),))

    def test_other_stock(self):
        self.assertEqual(caught(lambda: price_table(self.BOOK, read_good(WIDE, "mix far 1 hair"), Prices())),
                         ("OtherStock", 1))

    def test_multiples_and_lands(self):
        book = read_book(WIDE, "heading 1 is some over 1/2 hair\nheading 2 is main state worn\nheading 3 is any\nrules last")
        one = read_good(WIDE, "coat worn far (mix far 3 hair 2 wool, button whole here (mix here 1 horn))")
        other = read_good(WIDE, "coat worn here (mix here 3 hair 2 wool, button whole far (mix here 1 horn))")
        table = price_table(book, one, Prices(2, 3, 4))
        self.assertEqual(price_table(book, one * 10 ** 50, Prices(2, 3, 4)), table)
        self.assertEqual(price_table(book, other, Prices(2, 3, 4)), table)

    def test_prices_deep_within_a_good(self):
        stock = Stock(["a"], ["s"], ["l"], [("p", 1, 1, ["p", "mix"])])
        book = read_book(stock, "heading 1 is some some some mix\nheading 2 is any\nrules first")
        one = read_good(stock, "p s l (p s l (mix l 1 a))")
        rows = dict(price_table(book, one, Prices(1, 1, 7)))
        for place in ((), (0,)):
            self.assertEqual(min(price for kind, price in rows[place] if kind[2] == ("1",)), 7)
            self.assertEqual(min(price for kind, price in rows[place] if kind[2] == ("2",)), 0)
        self.assertEqual(rows[(0, 0)], ((("mix", (False, False, True), ("2",)), 0),))

    def test_random_tables(self):
        rng = fixed_random(39)
        many = 0
        for stock, size in ((STOCK, 4), (WIDE, 3), (twin_stock(), 4)):
            goods = goods_of(stock, size, 2, stock.lands[:1])
            pool = [one.plain for one in goods_of(stock, 2, 1, stock.lands[:1])]
            for _ in range(14):
                book = book_from(stock, rng, 3, 2, 1)
                prices = Prices(*[rng.choice([0, 1, 2, 3, 7]) for _ in range(3)])
                for one in rng.sample(goods, 4):
                    many += self.hold(stock, book, one, prices, pool)
        self.assertGreater(many, 500)

    def hold(self, stock, book, one, prices, pool):
        """The table against slow changes: none of these is cheaper, and each row is a kind that some good has."""
        table = price_table(book, one, prices)
        self.assertEqual([place for place, _ in table], list(one.places()))
        told = marks(stock, [book])
        slow = slow_of(book)
        kinds = set(paper(stock, [book]))
        many = 0
        for place, rows in table:
            self.assertEqual(list(rows), sorted(rows))
            found = dict(rows)
            self.assertEqual(len(found), len(rows))
            self.assertLessEqual(set(found), kinds)
            self.assertEqual(found[kind_of(stock, [book], one[place])], 0)
            for price, plain in slow_changes(stock, one[place].plain, prices, pool)[:3000]:
                many += 1
                self.assertLessEqual(found[slow.kind(told, plain)], price)
        return many

    def test_least_prices_are_reached(self):
        """With a pool that has all kinds, the table is what slow changes give."""
        rng = fixed_random(40)
        stock = Stock(["a", "b"], ["s", "t"], ["l"], [("p", 1, 2, ["mix", "q"]), ("q", 1, 1, ["mix"])])
        goods = goods_of(stock, 4, 2)
        for _ in range(12):
            book = book_from(stock, rng, 3, 1, 1)
            told, slow = marks(stock, [book]), slow_of(book)
            pool = {}
            for one in goods_of(stock, 4, 2):
                pool.setdefault(slow.kind(told, one.plain), one.plain)
            self.assertEqual(set(pool), set(paper(stock, [book])))
            prices = Prices(*[rng.choice([0, 1, 2, 3]) for _ in range(3)])
            for one in rng.sample(goods, 3):
                found = {}
                for price, plain in slow_changes(stock, one.plain, prices, list(pool.values())):
                    kind = slow.kind(told, plain)
                    found[kind] = min(price, found.get(kind, price))
                self.assertEqual(dict(price_table(book, one, prices))[()], tuple(sorted(found.items())))

    def test_what_is_passed_stays(self):
        one = read_good(STOCK, "coat whole far (mix far 2 hair, mix far 1 wool)")
        plain, prices = one.plain, Prices()
        price_table(self.BOOK, one, prices)
        self.assertEqual((one, prices), (Good(STOCK, plain), Prices()))


if __name__ == "__main__":
    unittest.main()
