"""Promises [38] and [39]: least changes of a good under a heading."""

import unittest

from fallsunder.booktext import read_book
from fallsunder.changes import least_change
from fallsunder.errors import NoWay
from fallsunder.goods import Good
from fallsunder.goodtext import read_good
from fallsunder.prices import Prices
from fallsunder.stocks import Stock
from tests.samples import (book_from, caught, fixed_random, goods_of, is_sound, plain_main, slow_of, small_stock,
                           twin_stock, wide_stock)
from tests.test_opengoods import proportions
from tests.test_prices import slow_changes

STOCK, WIDE = small_stock(), wide_stock()
WORDS = {"restate": 3, "reweigh": 3, "exchange": 3}


def shape_with(plain, deeds, place=()):
    """What a good afterwards must be, from the deeds alone: mixes and exchanged parts by their proportions."""
    mine = {deed[0]: deed[2] for deed in deeds if deed[1] == place}
    if "exchange" in mine:
        return ("part", proportions(mine["exchange"]))
    if plain[0] == "mix":
        return ("part", proportions(plain))
    return (plain[0], mine.get("restate", plain[1]), plain[2], mine.get("reweigh", plain_main(plain)),
            tuple(shape_with(part, deeds, (*place, k)) for k, part in enumerate(plain[3])))


def has_shape(plain, shape):
    if shape[0] == "part":
        return proportions(plain) == shape[1]
    if plain[0] == "mix" or plain[:3] != shape[:3] or plain_main(plain) != shape[3] or len(plain[3]) != len(shape[4]):
        return False
    return all(has_shape(part, inner) for part, inner in zip(plain[3], shape[4]))


class Looker(unittest.TestCase):
    def look_at(self, book, good, heading, prices, change):
        """Is it a change, whose deeds make the price, behind which the good falls under the heading?"""
        self.assertIsInstance(change.deeds, tuple)
        counts = {"restate": 0, "reweigh": 0, "exchange": 0}
        for deed in change.deeds:
            self.assertIsInstance(deed, tuple)
            self.assertEqual(len(deed), WORDS[deed[0]])
            counts[deed[0]] += 1
        self.assertEqual(change.price, prices.total(*counts.values()))
        where = [(list(good.places()).index(deed[1]), ["exchange", "restate", "reweigh"].index(deed[0]))
                 for deed in change.deeds]
        self.assertEqual(where, sorted(set(where)))
        gone = [deed[1] for deed in change.deeds if deed[0] == "exchange"]
        for word, place, what in change.deeds:
            self.assertFalse(any(place[:len(top)] == top and place != top for top in gone))
            if word == "restate":
                self.assertTrue(what in good.stock.states and what != good[place].state != "")
            elif word == "reweigh":
                self.assertTrue(0 <= what < good[place].many and what != good[place].main)
            else:
                self.assertIn(what[0], good.stock[good[place[:-1]].root][2])
                self.assertEqual(Good(good.stock, what).plain, what)
        self.assertTrue(has_shape(change.after.plain, shape_with(good.plain, change.deeds)))
        self.assertTrue(is_sound(change.after))
        self.assertIn(book(change.after), book.beneath(heading))


class ChangeTest(Looker):
    def told(self, text, good, heading, prices, stock=WIDE):
        book, one = read_book(stock, text), read_good(stock, good)
        change = least_change(book, one, heading, prices)
        self.look_at(book, one, heading, prices, change)
        return (change.price, tuple(deed[:2] for deed in change.deeds))

    def test_nothing_is_needed(self):
        book = read_book(WIDE, "heading 1 is any\nheading 1a under 1 is mix\nheading 1b under 1 is any\nrules first")
        one = read_good(WIDE, "button worn far (mix far 2 hair)")
        for prices in (Prices(), Prices(0, 0, 0)):
            for heading in ("1", "1b"):
                change = least_change(book, one, heading, prices)
                self.assertEqual((change.price, change.deeds, change.after), (0, (), one))
        self.assertEqual(caught(lambda: least_change(book, one, "1a", Prices())), ("NoWay", "1a"))
        mix = read_good(WIDE, "mix far 2 hair")
        self.assertEqual(least_change(book, mix, "1a", Prices()).price, 0)
        self.assertEqual(caught(lambda: least_change(book, mix, "1b", Prices())), ("NoWay", "1b"))

    def test_each_change_by_itself(self):
        text = "heading 1 is %s\nheading 2 is any\nrules first"
        coat = "coat whole far (mix far 1 hair, mix far 2 wool, button worn here (mix far 1 horn))"
        rows = [("state worn", Prices(), (1, (("restate", ()),))), ("over 1/2 hair", Prices(), (1, (("reweigh", ()),))),
                ("over 1/2 hair", Prices(1, 5, 2), (2, (("exchange", (1,)),))),
                ("some form coat", Prices(), (2, (("exchange", (0,)),))),
                ("each mix", Prices(), (2, (("exchange", (2,)),))),
                ("some state whole", Prices(), (1, (("restate", (2,)),))),
                ("some state whole", Prices(3, 1, 2), (2, (("exchange", (0,)),))),
                ("main state worn", Prices(), (1, (("reweigh", ()),))),
                ("main state whole", Prices(), (2, (("exchange", (1,)),))),
                ("main state whole", Prices(1, 1, 3), (2, (("reweigh", ()), ("restate", (2,))))),
                ("state worn and over 1/2 hair", Prices(4, 5, 100), (9, (("restate", ()), ("reweigh", ())))),
                ("each form button", Prices(), (4, (("exchange", (0,)), ("exchange", (1,))))),
                ("state worn and each form coat", Prices(7, 1, 2),
                 (13, (("restate", ()), ("exchange", (0,)), ("exchange", (1,)), ("exchange", (2,)))))]
        for term, prices, told in rows:
            found = self.told(text % term, coat, "1", prices)
            self.assertEqual(found[0], told[0], term)
            self.assertEqual(sorted(d[0] for d in found[1]), sorted(d[0] for d in told[1]), term)
            self.assertEqual(sum(len(d[1]) for d in found[1]), sum(len(d[1]) for d in told[1]), term)

    def test_within_a_part_or_the_part_itself(self):
        text = "heading 1 is each (state worn and each state worn)\nheading 2 is any\nrules first"
        coat = "coat whole far (coat whole far (coat whole far (mix far 1 hair), coat whole far (mix far 1 hair)))"
        self.assertEqual(self.told(text, coat, "1", Prices(1, 1, 2))[0], 2)
        self.assertEqual(self.told(text, coat, "1", Prices(1, 1, 2))[1], (("exchange", (0,)),))
        self.assertEqual(self.told(text, coat, "1", Prices(1, 1, 9)),
                         (3, (("restate", (0,)), ("restate", (0, 0)), ("restate", (0, 1)))))
        self.assertEqual(self.told(text, coat, "1", Prices(4, 1, 5))[0], 5)
        self.assertEqual(self.told(text, coat, "1", Prices(0, 1, 5))[0], 0)

    def test_prices_of_nothing(self):
        text = "heading 1 is state worn and over 1/2 hair and some form button\nheading 2 is any\nrules first"
        coat = "coat whole far (mix far 1 hair, mix far 2 wool)"
        rows = [((0, 1, 2), 2), ((1, 0, 2), 3), ((1, 1, 0), 1), ((0, 0, 2), 2), ((0, 1, 0), 0), ((1, 0, 0), 1),
                ((0, 0, 0), 0), ((1, 1, 2), 3), ((1000, 1000, 1000), 2000)]
        for prices, price in rows:
            self.assertEqual(self.told(text, coat, "1", Prices(*prices))[0], price)

    def test_order_of_errors(self):
        book = read_book(WIDE, "heading 1 is form ghost\nheading 2 is any\nrules first")
        one, strange = read_good(WIDE, "button worn far (mix far 1 hair)"), read_good(STOCK, "mix far 1 hair")
        self.assertEqual(caught(lambda: least_change(book, strange, "9", Prices())), ("OtherStock", 1))
        self.assertEqual(caught(lambda: least_change(book, one, "9", Prices())), ("NoHeading", "9"))
        self.assertEqual(caught(lambda: least_change(book, one, "none", Prices())), ("NoHeading", "none"))
        self.assertEqual(caught(lambda: least_change(book, one, "1", Prices())), ("NoWay", "1"))

    def test_main_parts_stay(self):
        stock = Stock(["a", "b"], ["s"], ["l"], [("p", 2, 2, ["mix", "q"]), ("q", 1, 1, ["mix"])])
        book = read_book(stock, "heading 1 is some form q and over 1/2 a\nheading 2 is any\nrules first")
        one = read_good(stock, "p s l (mix l 1 a, mix l 5 b)")
        change = least_change(book, one, "1", Prices(1, 9, 2))
        self.look_at(book, one, "1", Prices(1, 9, 2), change)
        self.assertEqual((change.price, change.after.main, [d[:2] for d in change.deeds]), (2, 1, [("exchange", (1,))]))

    def test_deep_goods(self):
        stock = Stock(["a"], ["s", "t"], ["l"], [("p", 1, 2, ["p", "mix"])])
        plain = ("mix", "l", (("a", 10 ** 99),))
        for k in range(29):
            plain = ("p", "t" if k % 2 else "s", "l", (plain, ("mix", "l", (("a", 1),))))
        one = Good(stock, plain)
        book = read_book(stock, "heading 1 is state s\nheading 2 is any\nnote 1 shuts some (not mix and not falls 1)\n"
                                "rules first")
        change = least_change(book, one, "1", Prices(1, 1, 1000))
        self.look_at(book, one, "1", Prices(1, 1, 1000), change)
        self.assertEqual(change.price, 14)
        change = least_change(book, one, "1", Prices(3, 1, 7))
        self.look_at(book, one, "1", Prices(3, 1, 7), change)
        self.assertEqual(change.price, 7)
        self.assertEqual(least_change(book, one * 10 ** 20, "1", Prices(3, 1, 7)).price, 7)

    def test_many_nodes(self):
        stock = Stock(["a", "b"], ["s", "t"], ["l"], [("p", 4, 4, ["p", "mix"])])
        rng = fixed_random(3)

        def grown(depth):
            if depth == 0:
                return ("mix", "l", (("a", rng.randint(1, 5)), ("b", rng.randint(1, 5))))
            return ("p", rng.choice("st"), "l", tuple(grown(depth - 1) for _ in range(4)))
        one = Good(stock, grown(4))
        self.assertEqual(one.size, 341)
        book = read_book(stock, "heading 1 is state s and each (mix or falls 1)\nheading 2 is any\nrules first"
                         .replace("falls 1", "state s and each (mix or state s and each (mix or state s))"))
        change = least_change(book, one, "1", Prices(1, 1, 3))
        self.look_at(book, one, "1", Prices(1, 1, 3), change)
        self.assertEqual(least_change(book, one * 7, "1", Prices(1, 1, 3)).price, change.price)

    def test_random_changes(self):
        rng = fixed_random(38)
        prices_met, ways = set(), 0
        for stock, size in ((STOCK, 4), (WIDE, 3), (twin_stock(), 4)):
            goods = goods_of(stock, size, 2, stock.lands[:1])
            pool = [one.plain for one in goods_of(stock, 2, 1, stock.lands[:1])]
            for _ in range(16):
                book = book_from(stock, rng, 3, 2)
                prices = Prices(*[rng.choice([0, 1, 2, 3, 7]) for _ in range(3)])
                for one in rng.sample(goods, 3):
                    for heading in list(book)[:3]:
                        price = self.hold(stock, book, one, heading, prices, pool)
                        prices_met.add(price)
                        ways += price is not None
        self.assertTrue(len(prices_met) > 5 and None in prices_met and ways > 100, (prices_met, ways))

    def hold(self, stock, book, one, heading, prices, pool):
        """The least change against slow ones: none of these is cheaper."""
        try:
            change = least_change(book, one, heading, prices)
        except NoWay:
            change = None
        slow = slow_of(book)
        for price, plain in slow_changes(stock, one.plain, prices, pool)[:2000]:
            if slow.under(heading, plain):
                self.assertIsNotNone(change)
                self.assertLessEqual(change.price, price)
        if change is None:
            return None
        self.look_at(book, one, heading, prices, change)
        return change.price


if __name__ == "__main__":
    unittest.main()
