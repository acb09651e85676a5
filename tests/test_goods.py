"""Promises [1], [5] and [6]: goods."""

import unittest

from fallsunder.errors import BadGood, BadNumber, NoPlace, OtherStock, Unknown
from fallsunder.goods import Good
from tests.samples import all_goods, goods_of, plain_main, plain_size, plain_stuff, plain_weight, small_stock
from tests.samples import wide_stock

STOCK = wide_stock()
WOOL = ("mix", "far", (("wool", 2),))
BOTH = ("mix", "here", (("hair", 1), ("horn", 4)))
BUTTON = ("button", "whole", "here", (BOTH,))
COAT = ("coat", "worn", "far", (WOOL, BUTTON, WOOL))


def deep_good(levels):
    plain = WOOL
    for _ in range(levels):
        plain = ("coat", "worn", "far", (plain,))
    return plain


class GoodTest(unittest.TestCase):
    def bad(self, place, plain):
        with self.subTest(plain=plain), self.assertRaises(BadGood) as caught:
            Good(STOCK, plain)
        self.assertEqual(caught.exception.place, place)

    def test_a_thing(self):
        good = Good(STOCK, COAT)
        self.assertEqual((good.root, good.state, good.land, good.weight), ("coat", "worn", "far", 9))
        self.assertEqual((good.size, good.depth, good.many, good.main), (5, 3, 3, 1))
        self.assertEqual([part.plain for part in good], [WOOL, BUTTON, WOOL])
        self.assertTrue(all(isinstance(part, Good) for part in good))
        self.assertEqual((good.stock, good.plain), (STOCK, COAT))
        self.assertEqual(good.stuff(), Good(STOCK, BOTH))
        self.assertEqual(list(good.places()), [(), (0,), (1,), (1, 0), (2,)])

    def test_a_mix(self):
        good = Good(STOCK, BOTH)
        self.assertEqual((good.root, good.state, good.land, good.weight), ("mix", "", "here", 5))
        self.assertEqual((good.size, good.depth, good.many, good.main, list(good)), (1, 1, 0, -1, []))
        self.assertEqual(good.stuff(), good)
        self.assertEqual(list(good.places()), [()])

    def test_all_small_goods(self):
        for plain in all_goods(small_stock(), 4):
            good = Good(small_stock(), plain)
            self.assertEqual((good.weight, good.size), (plain_weight(plain), plain_size(plain)))
            self.assertEqual(good.main, -1 if plain[0] == "mix" else plain_main(plain))
            self.assertEqual(good.stuff().plain, plain_stuff(plain))

    def test_first_of_the_heaviest_is_main(self):
        five, two = ("mix", "far", (("wool", 5),)), WOOL
        for parts, main in [((two, five, five), 1), ((five, five), 0), ((two, two, five), 2), ((five, two), 0)]:
            self.assertEqual(Good(STOCK, ("coat", "worn", "far", parts)).main, main)

    def test_bad_nodes(self):
        mix = "mix"
        for plain in (None, (), "mix", [mix, "far", (("wool", 1),)], (mix, "far"), (mix, "far", ()), (mix, "far", []),
                      (mix, "far", (("wool", 1),), 1), (mix, "nowhere", (("wool", 1),)), (mix, "far", (["wool", 1],)),
                      (mix, "far", [("wool", 1)]), (mix, "far", (("wood", 1),)), (mix, "far", (("wool", 0),)),
                      (mix, "far", (("wool", -1),)), (mix, "far", (("wool", True),)), (mix, "far", (("wool", "1"),)),
                      (mix, "far", (("wool", 1, 1),)), (mix, "far", (("wool", 1), ("hair", 1))),
                      (mix, "far", (("wool", 1), ("wool", 1))), (mix, ["far"], (("wool", 1),)),
                      ("hat", "worn", "far", (WOOL,)), ("coat", "new", "far", (WOOL,)),
                      ("coat", "worn", "no", (WOOL,)), ("coat", "worn", "far", ()), ("coat", "worn", "far", [WOOL]),
                      ("coat", "worn", "far", (WOOL,) * 4), ("coat", "worn", "far"), (["coat"], "worn", "far", (WOOL,)),
                      ["coat", "worn", "far", (WOOL,)], ("coat", "worn", "far", WOOL, WOOL), (1, 2, 3, 4)):
            self.bad((), plain)
        self.bad((1,), ("coat", "worn", "far", (WOOL, [mix, "far", (("wool", 1),)])))
        self.bad((0,), ("button", "worn", "far", (BUTTON,)))
        self.bad((0,), ("coat", "worn", "far", (("ghost", "worn", "far", (WOOL,)),)))

    def test_first_bad_node_of_two(self):
        wrong = ("mix", "far", ())
        self.bad((0, 0), ("coat", "worn", "far", (("button", "worn", "far", (wrong,)), wrong)))
        self.bad((0,), ("coat", "worn", "far", (("button", "no", "far", (wrong,)), wrong)))
        self.bad((1,), ("coat", "worn", "far", (WOOL, ("ghost", "worn", "far", (wrong,)), wrong)))
        self.bad((), ("coat", "worn", "far", (wrong,) * 4))
        self.bad((0, 0), ("coat", "worn", "far", (("button", "worn", "far", (BUTTON,)), wrong)))

    def test_places(self):
        good = Good(STOCK, COAT)
        self.assertEqual(good[()], good)
        self.assertEqual(good[(1, 0)].plain, BOTH)
        for place in ((3,), (-1,), (0, 0), (1, 0, 0), (True,), (1, False), [1], 1, "", None, ("1",), (1.0,)):
            with self.subTest(place=place), self.assertRaises(NoPlace) as caught:
                good[place]
            self.assertEqual(caught.exception.place, place)

    def test_places_do_nothing_ahead(self):
        rows = Good(STOCK, COAT).places()
        self.assertIs(iter(rows), rows)
        self.assertEqual(next(rows), ())

    def test_grams(self):
        good = Good(STOCK, COAT)
        self.assertEqual([good.grams(s) for s in STOCK.stuffs], [1, 4, 4])
        for name in ("coat", "far", "x", 0, None, ["wool"]):
            with self.assertRaises(Unknown) as caught:
                good.grams(name)
            self.assertEqual(caught.exception.name, name)

    def test_multiples(self):
        good = Good(STOCK, COAT) * 10 ** 50
        self.assertEqual(good.weight, 9 * 10 ** 50)
        self.assertEqual(good[(1, 0)].plain, ("mix", "here", (("hair", 10 ** 50), ("horn", 4 * 10 ** 50))))
        self.assertEqual((good.main, Good(STOCK, COAT) * 1), (1, Good(STOCK, COAT)))
        for wrong in (0, -1, True, "2", None, 1.0):
            with self.assertRaises(BadNumber) as caught:
                good * wrong
            self.assertIs(caught.exception.number, wrong)

    def test_equal(self):
        self.assertTrue(Good(STOCK, COAT) == Good(wide_stock(), COAT))
        self.assertFalse(Good(STOCK, COAT) == Good(STOCK, COAT) * 2)
        self.assertFalse(Good(STOCK, WOOL) == Good(small_stock(), WOOL))
        self.assertFalse(Good(STOCK, COAT) == COAT or Good(STOCK, COAT) == None)  # noqa: E711
        plains = all_goods(small_stock(), 3)
        for one in plains[::7]:
            for other in plains[::5]:
                self.assertEqual(Good(small_stock(), one) == Good(small_stock(), other), one == other)

    def test_exchanged(self):
        good = Good(STOCK, COAT)
        new = good.exchanged((0,), Good(STOCK, BUTTON))
        self.assertEqual(new.plain, ("coat", "worn", "far", (BUTTON, BUTTON, WOOL)))
        self.assertEqual(good.plain, COAT)
        self.assertEqual(good.exchanged((), Good(STOCK, BOTH)).plain, BOTH)
        self.assertEqual(good.exchanged((1, 0), Good(STOCK, WOOL))[(1, 0)].plain, WOOL)
        other = Good(small_stock(), WOOL)
        with self.assertRaises(OtherStock) as caught:
            good.exchanged((9,), other)
        self.assertEqual(caught.exception.number, 2)
        with self.assertRaises(NoPlace) as caught:
            good.exchanged((1, 0, 0), good)
        self.assertEqual(caught.exception.place, (1, 0, 0))
        with self.assertRaises(BadGood) as caught:
            good.exchanged((1, 0), good)
        self.assertEqual(caught.exception.place, (1, 0))

    def test_restated(self):
        good = Good(STOCK, COAT)
        self.assertEqual(good.restated((), "whole").plain, ("coat", "whole", "far", COAT[3]))
        self.assertEqual(good.restated((1,), "worn")[(1,)].plain, ("button", "worn", "here", (BOTH,)))
        self.assertEqual(good.restated((), "worn"), good)
        for place in ((0,), (7,), [1], (True,)):
            with self.assertRaises(NoPlace) as caught:
                good.restated(place, "x")
            self.assertEqual(caught.exception.place, place)
        for state in ("far", "x", None, ["worn"]):
            with self.assertRaises(Unknown) as caught:
                good.restated((), state)
            self.assertEqual(caught.exception.name, state)

    def test_got(self):
        good = Good(STOCK, COAT)
        self.assertEqual(good.got((1,), "far").plain[3][1], ("button", "whole", "far", (("mix", "far", BOTH[2]),)))
        self.assertEqual({good.got((), "here")[p].land for p in good.places()}, {"here"})
        self.assertEqual(good.got((0,), "here")[(0,)].plain, ("mix", "here", (("wool", 2),)))
        with self.assertRaises(NoPlace):
            good.got((5,), "x")
        for land in ("worn", "x", None):
            with self.assertRaises(Unknown) as caught:
                good.got((1,), land)
            self.assertEqual(caught.exception.name, land)

    def test_very_deep_goods(self):
        good = Good(STOCK, deep_good(2000))
        self.assertEqual((good.depth, good.size, good.weight, good.grams("wool")), (2001, 2001, 2, 2))
        self.assertTrue(good == Good(STOCK, deep_good(2000)) and not good == Good(STOCK, deep_good(1999)))
        self.assertEqual((good * 3).stuff().weight, 6)
        self.assertEqual(len(list(good.places())), 2001)
        self.assertEqual(good.got((), "here").exchanged((0,) * 2000, good).size, 4001)

    def test_goods_of_lists_are_not_changed(self):
        goods = goods_of(small_stock(), 3)
        before = [good.plain for good in goods]
        for good in goods:
            list(good)
            good * 2
            good.got((), "far")
        self.assertEqual([good.plain for good in goods], before)


if __name__ == "__main__":
    unittest.main()
