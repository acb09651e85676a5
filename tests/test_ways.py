"""Promise [45]: ways to bring in a good, their units and prices."""

import itertools
import unittest

from fallsunder.booktext import read_book
from fallsunder.goods import Good
from fallsunder.goodtext import read_good
from fallsunder.rates import Rates
from fallsunder.ratios import Ratio
from fallsunder.ways import Way, all_ways, cheapest
from tests.samples import book_from, caught, fixed_random, goods_of, small_stock, twin_stock, wide_stock

STOCK = wide_stock()
BOOK = read_book(STOCK, "heading 1 is mix\nheading 2 is state worn\nheading 3 is any\nrules first")
RATES = Rates(BOOK, [("1", Ratio(1)), ("2", Ratio(2)), ("3", Ratio(5)), ("none", Ratio(0)), ("two", Ratio(0)),
                     ("ring", Ratio(0))],
              joining=[("coat", Ratio(1, 2)), ("button", Ratio(3)), ("ghost", Ratio(0))])
COAT = read_good(STOCK, "coat whole far (mix far 3 hair, button whole here (mix here 1 horn))")
WHOLE = ("whole", "whole")
MIX = ("whole", "")


def slow_ways(good, finishing):
    """All plain ways of a good."""
    if good.root == "mix":
        return [MIX]
    states = good.stock.states if finishing is not None else [good.state]
    out = [("whole", state) for state in states]
    return out + [("joined", row) for row in itertools.product(*[slow_ways(part, finishing) for part in good])]


def slow_price(rates, good, way):
    if way[0] == "joined":
        parts = [slow_price(rates, part, inner) for part, inner in zip(good, way[1])]
        return sum(parts, rates.join_price(good.root) * good.weight)
    if good.root == "mix" or way[1] == good.state:
        return rates[rates.book(good)] * good.weight
    other = Good(good.stock, (good.root, way[1], *good.plain[2:]))
    return (rates[rates.book(other)] + rates.finishing) * good.weight


def slow_units(good, way):
    if way[0] == "joined":
        return [unit for part, inner in zip(good, way[1]) for unit in slow_units(part, inner)]
    return [good if good.root == "mix" else Good(good.stock, (good.root, way[1], *good.plain[2:]))]


class WayTest(unittest.TestCase):
    def test_what_is_no_way(self):
        bad = [None, (), "whole", ("whole",), ("whole", 1), ("whole", None), ("whole", "a", "b"), ["whole", "worn"],
               ("joined",), ("joined", ()), ("joined", (WHOLE,) * 5), ("joined", [WHOLE]), ("joined", WHOLE, WHOLE),
               ("joint", (WHOLE,)), (1, (WHOLE,)), ("joined", "x"), ("joined", None), Way(WHOLE)]
        for thing in bad:
            self.assertEqual(caught(lambda: Way(thing)), ("BadWay", ()), thing)
            deep = ("joined", (WHOLE, ("joined", (WHOLE, MIX, thing)), thing))
            self.assertEqual(caught(lambda: Way(deep)), ("BadWay", (1, 2)), thing)
        self.assertEqual(Way(("joined", (WHOLE,) * 4)).plain, ("joined", (WHOLE,) * 4))
        self.assertEqual(Way(("whole", "anything")).plain, ("whole", "anything"))
        self.assertEqual(caught(lambda: Way(("joined", (("joined", ()), ["whole", ""])))), ("BadWay", (0,)))

    def test_equality(self):
        self.assertEqual(Way(("joined", (WHOLE, MIX))), Way(("joined", (WHOLE, MIX))))
        for other in (Way(("joined", (MIX, WHOLE))), Way(("joined", (WHOLE,))), Way(WHOLE), Way(MIX), WHOLE, None):
            self.assertFalse(Way(("joined", (WHOLE, MIX))) == other)

    def test_units_and_prices(self):
        button = COAT[(1,)]
        rows = [(WHOLE, (COAT,), Ratio(20)), (("joined", (MIX, WHOLE)), (COAT[(0,)], button), Ratio(10)),
                (("joined", (MIX, ("joined", (MIX,)))), (COAT[(0,)], COAT[(1, 0)]), Ratio(9))]
        for plain, units, price in rows:
            self.assertEqual(Way(plain).units(COAT), units)
            self.assertEqual(Way(plain).costs(RATES, COAT), price)
        finished = Rates(BOOK, [(name, RATES[name]) for name in (*BOOK.leaves, "none", "two", "ring")],
                         joining=[(name, RATES.join_price(name)) for name in ("coat", "button", "ghost")],
                         finishing=Ratio(1, 4))
        worn = ("whole", "worn")
        self.assertEqual(Way(worn).units(COAT), (COAT.restated((), "worn"),))
        self.assertEqual(Way(worn).costs(finished, COAT), 9)
        self.assertEqual(Way(("joined", (MIX, worn))).units(COAT), (COAT[(0,)], button.restated((), "worn")))
        self.assertEqual(Way(("joined", (MIX, worn))).costs(finished, COAT), Ratio(29, 4))
        self.assertEqual(Way(worn).costs(finished, COAT * 3), 27)

    def test_ways_that_do_not_fit(self):
        rows = [(MIX, ()), (("whole", "x"), ()), (("joined", (MIX,)), ()), (("joined", (MIX, WHOLE, MIX)), ()),
                (("joined", (WHOLE, WHOLE)), (0,)), (("joined", (MIX, MIX)), (1,)),
                (("joined", (("joined", (MIX,)), MIX)), (0,)), (("joined", (MIX, ("joined", (WHOLE,)))), (1, 0)),
                (("joined", (MIX, ("joined", (MIX, WHOLE)))), (1,)), (("whole", "far"), ())]
        for plain, place in rows:
            self.assertEqual(caught(lambda: Way(plain).units(COAT)), ("BadWay", place))
            self.assertEqual(caught(lambda: Way(plain).costs(RATES, COAT)), ("BadWay", place))
        mix = COAT[(0,)]
        for plain in (WHOLE, ("whole", "x"), ("joined", (MIX,))):
            self.assertEqual(caught(lambda: Way(plain).units(mix)), ("BadWay", ()))
        # without finishing, the first place in the walk at which a state is finished, or the way does not fit
        worn = ("whole", "worn")
        rows = [(worn, ()), (("joined", (MIX, worn)), (1,)), (("joined", (WHOLE, worn)), (0,)),
                (("joined", (MIX, ("joined", (WHOLE,)))), (1, 0))]
        for plain, place in rows:
            self.assertEqual(caught(lambda: Way(plain).costs(RATES, COAT)), ("BadWay", place))
        self.assertEqual(len(Way(worn).units(COAT)), 1)

    def test_other_stock(self):
        strange = read_good(small_stock(), "coat worn far (mix far 1 hair)")
        self.assertEqual(caught(lambda: Way(MIX).costs(RATES, strange)), ("OtherStock", 2))
        self.assertEqual(caught(lambda: cheapest(RATES, strange)), ("OtherStock", 1))
        ways = all_ways(RATES, strange)
        self.assertEqual(caught(lambda: next(iter(ways))), ("OtherStock", 1))


class CheapestTest(unittest.TestCase):
    def test_cheapest(self):
        way, price = cheapest(RATES, COAT)
        self.assertEqual((way.plain, price), (("joined", (MIX, ("joined", (MIX,)))), Ratio(9)))
        mix = COAT[(0,)]
        self.assertEqual((cheapest(RATES, mix)[0].plain, cheapest(RATES, mix)[1]), (MIX, Ratio(3)))
        self.assertEqual([way.plain for way in all_ways(RATES, mix)], [MIX])

    def test_finishing_is_asked_each_time(self):
        one = RATES.with_joining(Ratio(100))
        self.assertEqual(cheapest(one, COAT)[1], 20)
        self.assertEqual(len(list(all_ways(one, COAT))), 3)
        ways = all_ways(one, COAT)
        one.finishing = Ratio(0)
        self.assertEqual((cheapest(one, COAT)[0].plain, cheapest(one, COAT)[1]), (("whole", "worn"), Ratio(8)))
        self.assertEqual(len(list(ways)), 5)
        one.refinish(None)
        self.assertEqual(cheapest(one, COAT)[1], 20)

    def test_many_ways_are_told_one_by_one(self):
        stock = twin_stock()
        plain = ("mix", "l", (("a", 1),))
        for _ in range(20):
            plain = ("q", "s", "l", (plain,))
        one = Good(stock, ("r", "t", "l", (("p", "s", "l", (plain, plain)),) * 3))
        rates = Rates(read_book(stock, "heading 1 is any\nrules"), [(name, Ratio(1)) for name in ("1", "none", "two", "ring")],
                      joining=[(name, Ratio(0)) for name in "pqr"], finishing=Ratio(0))
        some = [way for _, way in zip(range(50), all_ways(rates, one))]
        self.assertEqual(len({way.plain for way in some}), 50)
        self.assertEqual(cheapest(rates, one)[1], one.weight)
        for way in some:
            self.assertEqual(way.costs(rates, one), one.weight)

    def test_random_rates(self):
        rng = fixed_random(47)
        joined, finished, many = 0, 0, 0
        for stock, size in ((small_stock(), 4), (STOCK, 4), (twin_stock(), 4)):
            goods = goods_of(stock, size, 1, stock.lands[:1])
            for _ in range(12):
                book = book_from(stock, rng, 3, 2)
                rows = [(name, Ratio(rng.randint(0, 4), rng.randint(1, 4)))
                        for name in (*book.leaves, "none", "two", "ring")]
                rates = Rates(book, rows, joining=[(row[0], Ratio(rng.randint(0, 3), 4)) for row in stock.forms],
                              finishing=rng.choice([None, Ratio(0), Ratio(0), Ratio(1, 9)]))
                for one in rng.sample(goods, 8):
                    one = one * rng.randint(1, 5)
                    ways = list(all_ways(rates, one))
                    slow = slow_ways(one, rates.finishing)
                    self.assertEqual(sorted(way.plain for way in ways), sorted(slow))
                    for way in ways[:40]:
                        self.assertEqual(way.costs(rates, one), slow_price(rates, one, way.plain))
                        self.assertEqual(list(way.units(one)), slow_units(one, way.plain))
                    way, price = cheapest(rates, one)
                    self.assertIn(way.plain, slow)
                    self.assertEqual(price, way.costs(rates, one))
                    self.assertFalse(any(other.costs(rates, one).less(price) for other in ways))
                    many += len(ways)
                    joined += way.plain[0] == "joined"
                    finished += way.plain[0] == "whole" and way.plain[1] != one.state
        self.assertTrue(joined > 20 and finished > 0 and many > 500, (joined, finished, many))


if __name__ == "__main__":
    unittest.main()
