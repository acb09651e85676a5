"""Promise [42]: the makings of a rule of origin, rules that are alike, kinder rules."""

import unittest

from fallsunder.balances import is_kept, multiples_near, weights_within
from fallsunder.booktext import read_book
from fallsunder.goodtext import read_good
from fallsunder.makings import Makings, kinder, origin_parting
from fallsunder.origins import OriginRule
from fallsunder.ratios import Ratio
from fallsunder.stocks import Stock
from tests.samples import book_from, caught, fixed_random, goods_of, is_sound, small_stock, twin_stock, wide_stock

TOLERANCES = [0, Ratio(1, 2), Ratio(1, 3), Ratio(1, 4), Ratio(2, 3), Ratio(1, 10), Ratio(3, 4), Ratio(2, 5)]
STOCK = Stock(["a"], ["s"], ["far", "here"], [("p", 1, 2, ["mix", "p"])])
ALL = read_book(STOCK, "heading 1 is any\nrules")
MIXES = read_book(STOCK, "heading 1 is mix\nheading 2 is any\nrules first")


def lands_stock():
    return Stock(["a", "b"], ["s", "t"], ["k", "l", "m"], [("p", 1, 3, ["mix", "q"]), ("q", 1, 2, ["q", "mix"])])


class MakingsTest(unittest.TestCase):
    def test_rows(self):
        rows = [(name, one, other) for name in "1" for one in ("far", "here") for other in ("far", "here")]
        self.assertEqual([row for row, _ in Makings(OriginRule(ALL))], rows)
        # with a tolerance of a half the main part may stay, and weigh not more than the other one
        self.assertEqual([row for row, _ in Makings(OriginRule(ALL, Ratio(1, 2)))], rows)
        own = [("1", "far", "far"), ("1", "here", "here"), ("2", "far", "far"), ("2", "here", "here")]
        self.assertEqual([row for row, _ in Makings(OriginRule(ALL, zones=[("far", "here")]))][:1], [("1", "far", "far")])
        never = Stock(["a"], ["s"], ["far", "here"], [("p", 1, 2, ["mix"])])
        worked = read_book(never, "heading 1 is mix\nheading 2 is any\nrules first")
        self.assertEqual([row for row, _ in Makings(OriginRule(worked))], own)
        made = Makings(OriginRule(MIXES))
        self.assertEqual([row for row, _ in made], own[:2] + [("2", *row[1:]) for row in rows])
        self.assertEqual([good.size for _, good in made], [1, 1, 2, 3, 3, 2])

    def test_methods(self):
        made = Makings(OriginRule(MIXES))
        rows = list(made)
        self.assertEqual(made.many, 6)
        self.assertEqual(rows, list(made))
        for row, good in rows:
            self.assertIn(row, made)
            self.assertEqual(made.example(*row), good)
        for row in (("1", "far", "here"), ("3", "far", "far"), ("1", "far"), ["1", "far", "far"], "1", None,
                    ("1", "far", "x"), (1, "far", "far"), (["1"], "far", "far")):
            self.assertFalse(row in made)
        self.assertEqual(caught(lambda: made.example("1", "far", "here")), ("NoRow", ("1", "far", "here")))
        self.assertEqual(caught(lambda: made.example("none", "x", "y")), ("NoRow", ("none", "x", "y")))
        self.assertEqual(made.lands_of("2", "far"), ("far", "here"))
        self.assertEqual([made.lands_of(*row) for row in (("1", "here"), ("1", "x"), ("9", "far"))], [("here",), (), ()])

    def test_equality(self):
        made = Makings(OriginRule(MIXES))
        self.assertEqual(made, Makings(OriginRule(MIXES.changed(headings=[("1", "", ("mix",)), ("2", "", ("parts", 1))]))))
        self.assertFalse(made == Makings(OriginRule(ALL)))
        self.assertFalse(made == list(made))

    def test_weights_that_must_be_met_exactly(self):
        """Two parts, the main one stays: with a half it must weigh exactly as much as the other one."""
        stock = Stock(["a", "b"], ["s"], ["far", "here"], [("p", 2, 2, ["mix"])])
        book = read_book(stock, "heading 1 is over 0/1 a\nheading 2 is any\nrules first")
        rows = [("1", "here", "here"), ("1", "here", "far")]
        for tolerance, has in ((Ratio(1, 2), True), (Ratio(49, 100), False), (Ratio(51, 100), True)):
            rule = OriginRule(book, tolerance, zones=[])
            made = Makings(rule)
            self.assertTrue(all(row in made for row in rows))
            for row, good in made:
                self.assertEqual((book(good), good.land, rule(good)), row)
            first = read_good(stock, "p s here (mix far 3 a, mix far 3 b)")
            self.assertEqual(rule.gained(first), has)
            kind = kinder(OriginRule(book, Ratio(48, 100)), rule)
            self.assertEqual(kind is not None, True)

    def test_random_rules(self):
        rng = fixed_random(43)
        many, parted, kinds = 0, 0, 0
        for stock, size in ((small_stock(), 4), (wide_stock(), 3), (lands_stock(), 3), (twin_stock(), 4)):
            goods = goods_of(stock, size, 2 if len(stock.lands) < 3 else 1)
            zones = [(), ((stock.lands[0],),), (stock.lands[:2],), (stock.lands[1:3], stock.lands[:1])]
            for _ in range(14):
                book = book_from(stock, rng, 3, 3)
                some = rng.sample(goods, min(250, len(goods)))
                first = OriginRule(book, rng.choice(TOLERANCES), zones=rng.choice(zones))
                other = rng.choice([book, book_from(stock, rng, 3, 2)])
                second = OriginRule(other, rng.choice(TOLERANCES), zones=rng.choice(zones))
                many += self.hold_makings(first, some)
                parted += self.hold_parting(first, second, some)
                kinds += self.hold_kinder(first, second, some) + self.hold_kinder(second, first, some)
        self.assertTrue(many > 200 and parted > 10 and kinds > 10, (many, parted, kinds))

    def hold_makings(self, rule, goods):
        made = Makings(rule)
        rows = [row for row, _ in made]
        self.assertEqual(rows, sorted(rows))
        for row, good in made:
            self.assertEqual((rule.book(good), good.land, rule(good)), row)
            self.assertTrue(is_sound(good))
        for one in goods:
            self.assertLessEqual(made.example(rule.book(one), one.land, rule(one)).size, one.size)
        return len(rows)

    def hold_parting(self, first, second, goods):
        good = origin_parting(first, second)
        if good is not None:
            self.assertNotEqual(first(good), second(good))
            self.assertTrue(is_sound(good))
        for one in goods:
            if first(one) != second(one):
                self.assertIsNotNone(good)
                self.assertLessEqual(good.size, one.size)
        return good is not None

    def hold_kinder(self, first, second, goods):
        good = kinder(first, second)
        if good is not None:
            self.assertTrue(second.gained(good) and not first.gained(good) and is_sound(good))
        for one in goods:
            if second.gained(one) and not first.gained(one):
                self.assertIsNotNone(good)
                self.assertLessEqual(good.size, one.size)
        return good is not None

    def test_all_goods_of_small_stocks(self):
        """Rows, and the least goods, against all goods of up to four nodes with grams that reach each balance."""
        rng = fixed_random(44)
        stock = Stock(["a"], ["s", "t"], ["k", "l"], [("p", 1, 3, ["mix", "q"]), ("q", 1, 1, ["mix"])])
        goods = goods_of(stock, 4, 3)
        for k in range(10):
            book = book_from(stock, rng, 3, 2, 1)
            rule = OriginRule(book, TOLERANCES[k % len(TOLERANCES)], zones=rng.choice([(), (("k", "l"),)]))
            least = {}
            for one in goods:
                row = (book(one), one.land, rule(one))
                least[row] = min(one.size, least.get(row, 99))
            told = {row: good.size for row, good in Makings(rule)}
            self.assertEqual({row: size for row, size in told.items() if size < 5}, least)


class TwoRulesTest(unittest.TestCase):
    def test_rules_that_are_alike(self):
        rule = OriginRule(MIXES, Ratio(1, 3))
        self.assertIsNone(origin_parting(rule, OriginRule(MIXES, Ratio(1, 3))))
        other = MIXES.changed(headings=[("x", "", ("not", ("parts", 1))), ("y", "", ("parts", 1))])
        self.assertIsNone(origin_parting(rule, OriginRule(other, Ratio(1, 3))))
        self.assertIsNone(kinder(rule, OriginRule(other, Ratio(1, 3))))
        self.assertIsNone(origin_parting(OriginRule(MIXES, zones=[("far",)]), OriginRule(MIXES, zones=[(), ("here",)])))
        worked = read_book(STOCK, "heading 1 is mix\nheading 2 is any\nrules first\n".strip())
        self.assertIsNone(origin_parting(OriginRule(worked), OriginRule(MIXES)))

    def test_rules_that_are_parted(self):
        strict, soft = OriginRule(MIXES), OriginRule(MIXES, Ratio(1, 3))
        good = origin_parting(strict, soft)
        self.assertEqual((good.size, strict(good) == soft(good)), (4, False))
        # a part that the softer rule alone counts as gained may be foreign by it alone
        good = kinder(soft, strict)
        self.assertTrue(strict.gained(good) and not soft.gained(good))
        good = kinder(strict, soft)
        self.assertTrue(good.size == 4 and soft.gained(good) and not strict.gained(good))
        zoned = OriginRule(MIXES, zones=[("far", "here")])
        self.assertEqual(origin_parting(strict, zoned).size, 3)
        self.assertIsNone(kinder(zoned, strict))
        self.assertEqual(kinder(strict, zoned).size, 3)

    def test_neither_is_kinder(self):
        one = OriginRule(MIXES, Ratio(1, 3))
        other = OriginRule(MIXES, zones=[("far", "here")])
        self.assertIsNone(kinder(other, one))
        stock = lands_stock()
        book = read_book(stock, "heading 1 is mix\nheading 2 is form q\nheading 3 is any\nrules first")
        first, second = OriginRule(book, zones=[("k", "l")]), OriginRule(book, zones=[("l", "m")])
        for rules in ((first, second), (second, first)):
            good = kinder(*rules)
            self.assertTrue(rules[1].gained(good) and not rules[0].gained(good))

    def test_other_stock(self):
        strange = OriginRule(read_book(small_stock(), "heading 1 is any\nrules"))
        for call in (origin_parting, kinder):
            self.assertEqual(caught(lambda: call(OriginRule(ALL), strange)), ("OtherStock", 1))


class BalanceTest(unittest.TestCase):
    def test_weights(self):
        self.assertEqual(weights_within([], 1), (1,))
        self.assertIsNone(weights_within([((1,), False)], 1))
        self.assertIsNone(weights_within([((0,), True)], 1))
        self.assertEqual(weights_within([((1, -1), False)], 2), (1, 1))
        self.assertIsNone(weights_within([((1, -1), True)], 2))
        for rows, many in (([((1, -2), True)], 2), ([((-1, 2, 2), False), ((1, -3, -3), True)], 3),
                           ([((5, -2, -2, -2), True)], 4), ([((-1, 10 ** 20), False)], 2)):
            self.assertTrue(is_kept(rows, weights_within(rows, many)))

    def test_multiples(self):
        rng = fixed_random(9)
        for _ in range(300):
            many = rng.randint(1, 4)
            rows = [(tuple(rng.randint(-3, 2) for _ in range(many)), rng.random() < 0.5) for _ in range(rng.randint(0, 2))]
            weights = weights_within(rows, many)
            if weights is not None:
                loads = [rng.randint(1, 10 ** rng.randint(0, 30)) for _ in range(many)]
                factors = multiples_near(loads, weights, rows)
                self.assertTrue(min(factors) >= 1)
                self.assertTrue(is_kept(rows, [load * by for load, by in zip(loads, factors)]))


if __name__ == "__main__":
    unittest.main()
