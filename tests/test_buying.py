"""Promise [43]: the least weight of parts to be got in a land."""

import itertools
import unittest

from fallsunder.booktext import read_book
from fallsunder.buying import least_weight
from fallsunder.goods import Good
from fallsunder.goodtext import read_good
from fallsunder.origins import OriginRule
from fallsunder.ratios import Ratio
from tests.samples import book_from, caught, fixed_random, goods_of, small_stock, wide_stock
from tests.test_origins import BOOK, STOCK

RULE = OriginRule(BOOK)


def good(text):
    return read_good(STOCK, text)


def slow_weights(rule, one, land):
    """All choices of places that do it, rows (grams, places)."""
    if one.root == "mix":
        return [(0, ())]
    base = Good(one.stock, (one.plain[0], one.plain[1], land, one.plain[3]))
    places = list(one.places())
    out = []
    for many in range(len(places) + 1):
        for choice in itertools.combinations(places, many):
            if not any(a != b and b[:len(a)] == a for a in choice for b in choice):
                afterwards = base
                for place in choice:
                    afterwards = afterwards.got(place, land)
                if rule(afterwards) == land:
                    out.append((sum(one[place].weight for place in choice), choice))
    return out


class BuyingTest(unittest.TestCase):
    def test_goods_that_need_nothing(self):
        self.assertEqual(least_weight(RULE, good("mix far 3 hair"), "here"), (0, ()))
        for land in STOCK.lands:
            self.assertEqual(least_weight(RULE, good("coat worn far (mix far 3 hair, mix here 2 wool)"), land), (0, ()))

    def test_parts_that_stay(self):
        one = good("coat worn far (coat worn far (mix far 3 hair), coat worn near (mix near 1 hair), mix far 7 wool)")
        # the main part is a mix: the good has its origin, as long as a coat from elsewhere stays
        self.assertEqual(least_weight(RULE, one, "far"), (0, ()))
        self.assertEqual(least_weight(RULE, one, "near"), (3, ((0,),)))
        self.assertEqual(least_weight(RULE, one, "here"), (4, ((0,), (1,))))
        half = OriginRule(BOOK, Ratio(3, 11))
        self.assertEqual([least_weight(half, one, land)[0] for land in ("far", "near", "here")], [0, 0, 1])

    def test_the_origin_of_the_main_part(self):
        """It may cost less to get the main part than to get all that stays."""
        one = good("coat worn far (coat worn near (mix near 5 hair), coat worn here (mix here 4 hair), "
                   "coat worn here (mix here 4 hair))")
        self.assertEqual(least_weight(RULE, one, "far"), (5, ((0,),)))
        self.assertEqual(least_weight(RULE, one, "near"), (0, ()))
        self.assertEqual(least_weight(RULE, one, "here"), (5, ((0,),)))

    def test_deep_places(self):
        one = good("coat worn far (coat worn here (coat worn near (mix near 5 hair), mix near 9 hair))")
        # within the inner coat the smaller coat is got, so that the inner coat is gained in its land; or the mix
        self.assertEqual(least_weight(RULE, one, "here"), (5, ((0, 0),)))
        self.assertEqual(least_weight(RULE, one, "near"), (0, ()))
        self.assertEqual(least_weight(RULE, one, "far"), (9, ((0, 1),)))

    def test_zones(self):
        """A part from a land that counts as one does not stay; as an origin it is not yet the land itself."""
        one = good("coat worn far (coat worn near (mix near 5 hair), coat worn here (mix here 4 hair))")
        self.assertEqual(least_weight(OriginRule(BOOK, zones=[("far", "near")]), one, "far"), (4, ((1,),)))
        self.assertEqual(least_weight(OriginRule(BOOK, zones=[("far", "near", "here")]), one, "far"), (0, ()))
        self.assertEqual(least_weight(OriginRule(BOOK, zones=[("near", "here")]), one, "far"), (5, ((0,),)))

    def test_multiples(self):
        one = good("coat worn far (coat worn far (mix far 3 hair), coat worn near (mix near 1 hair), mix far 7 wool)")
        self.assertEqual(least_weight(RULE, one * 10 ** 40, "here"), (4 * 10 ** 40, ((0,), (1,))))

    def test_errors(self):
        strange = read_good(wide_stock(), "mix far 1 hair")
        self.assertEqual(caught(lambda: least_weight(RULE, strange, "x")), ("OtherStock", 1))
        for land in ("x", "worn", "", None, 1, ("far",)):
            self.assertEqual(caught(lambda: least_weight(RULE, good("mix far 1 hair"), land)), ("Unknown", land))

    def test_random_goods(self):
        rng = fixed_random(45)
        wide = wide_stock()
        pool = goods_of(wide, 4, 1)
        kinds = set()
        for k in range(25):
            book = book_from(wide, rng, 3, 2)
            rule = OriginRule(book, rng.choice([0, Ratio(1, 3), Ratio(1, 2), Ratio(2, 3)]),
                              zones=rng.choice([(), (("far", "here"),)]))
            for one in rng.sample(pool, 12):
                one = one * rng.randint(1, 3)
                for land in wide.lands:
                    grams, places = least_weight(rule, one, land)
                    rows = slow_weights(rule, one, land)
                    self.assertEqual(grams, min(rows)[0])
                    self.assertIn((grams, places), rows)
                    self.assertEqual(list(places), sorted(places))
                    kinds.add(len(places))
        self.assertTrue({0, 1, 2} <= kinds, kinds)

    def test_random_deeper_goods(self):
        rng = fixed_random(46)
        for k in range(25):
            rule = OriginRule(BOOK, rng.choice([0, Ratio(1, 3), Ratio(1, 5)]),
                              zones=rng.choice([(), (("far", "here"),), (("near", "here"),)]))
            one = Good(STOCK, self.random_plain(rng, 3))
            if one.size < 11:
                for land in STOCK.lands:
                    grams, places = least_weight(rule, one, land)
                    rows = slow_weights(rule, one, land)
                    self.assertEqual(grams, min(rows)[0])
                    self.assertIn((grams, places), rows)

    def random_plain(self, rng, depth):
        if depth == 0 or rng.random() < 0.2:
            return ("mix", rng.choice(STOCK.lands), ((rng.choice(["hair", "wool"]), rng.randint(1, 6)),))
        parts = tuple(self.random_plain(rng, depth - 1) for _ in range(rng.randint(1, 3)))
        return ("coat", rng.choice(STOCK.states), rng.choice(STOCK.lands), parts)

    def test_a_large_good(self):
        plain = ("mix", "near", (("hair", 1),))
        for k in range(4):
            plain = ("coat", "worn", STOCK.lands[k % 3], (plain, plain, plain, ("mix", "here", (("hair", k + 1),))))
        one = Good(STOCK, plain)
        self.assertGreater(one.size, 120)
        grams, places = least_weight(RULE, one, "far")
        afterwards = one.got((), "far") if places == ((),) else Good(STOCK, (*plain[:2], "far", plain[3]))
        for place in places:
            afterwards = afterwards.got(place, "far")
        self.assertEqual(RULE(afterwards), "far")
        self.assertEqual(sum(one[place].weight for place in places), grams)

    def test_a_book_by_which_nothing_stays(self):
        rule = OriginRule(read_book(small_stock(), "heading 1 is mix\nheading 2 is any\nrules first"))
        one = read_good(small_stock(), "coat worn far (mix far 3 hair)")
        self.assertEqual(least_weight(rule, one, "far"), (0, ()))


if __name__ == "__main__":
    unittest.main()
