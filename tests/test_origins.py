"""Promise [41]: rules of origin."""

import unittest

from fallsunder.booktext import read_book
from fallsunder.goods import Good
from fallsunder.goodtext import read_good
from fallsunder.origins import OriginRule
from fallsunder.ratios import Ratio
from fallsunder.stocks import Stock
from tests.samples import book_from, caught, fixed_random, plain_main, plain_weight, slow_of, wide_stock

STOCK = Stock(["hair", "wool"], ["worn", "whole"], ["far", "here", "near"],
              [("coat", 1, 4, ["mix", "coat", "button"]), ("button", 1, 2, ["mix"])])
# mixes and buttons are made into something else in coats, coats in coats are not
BOOK = read_book(STOCK, "heading 1 is form coat\nheading 2 is form button\nheading 3 is mix\nrules first")


def good(text):
    return read_good(STOCK, text)


def slow_origin(slow, tolerance, zones, plain):
    """`(origin, is it gained, numbers of the parts that stay)`, by the words of the document."""
    if plain[0] == "mix":
        return (plain[1], True, ())
    told = [slow_origin(slow, tolerance, zones, part) for part in plain[3]]

    def as_one(a, b):
        return a == b or any(a in zone and b in zone for zone in zones)
    stays = tuple(k for k, part in enumerate(plain[3])
                  if not as_one(told[k][0], plain[2]) and slow.result(part) == slow.result(plain))
    load = sum(plain_weight(plain[3][k]) for k in stays)
    gained = load * tolerance.bottom <= plain_weight(plain) * tolerance.top
    return (plain[2] if gained else told[plain_main(plain)][0], gained, stays)


class OriginTest(unittest.TestCase):
    def test_mixes_and_worked_parts(self):
        rule = OriginRule(BOOK)
        mix = good("mix far 3 hair")
        self.assertEqual((rule(mix), rule.gained(mix), rule.staying(mix)), ("far", True, ()))
        one = good("coat worn here (mix far 3 hair, button whole near (mix far 1 hair))")
        self.assertEqual((rule(one), rule.gained(one), rule.staying(one)), ("here", True, ()))

    def test_tolerance(self):
        one = good("coat worn here (mix far 3 hair, coat worn near (mix near 1 hair))")
        self.assertEqual(OriginRule(BOOK)(one), "far")
        self.assertEqual(OriginRule(BOOK).staying(one), (1,))
        self.assertFalse(OriginRule(BOOK).gained(one))
        exact = OriginRule(BOOK, Ratio(1, 4))
        self.assertEqual((exact(one), exact.gained(one), exact.staying(one)), ("here", True, (1,)))
        by_a_gram = good("coat worn here (mix far 299 hair, coat worn near (mix near 100 hair))")
        self.assertEqual((exact(by_a_gram), exact.gained(by_a_gram)), ("far", False))
        self.assertTrue(exact.gained(good("coat worn here (mix far 300 hair, coat worn near (mix near 100 hair))")))
        heavy = good("coat worn here (mix far 1 hair, coat worn near (mix near 3 hair))")
        self.assertEqual([OriginRule(BOOK, Ratio(*row))(heavy) for row in ((74, 100), (75, 100))], ["near", "here"])

    def test_parts_gained_within_parts(self):
        rule = OriginRule(BOOK, Ratio(0))
        inner = "coat worn near (coat whole far (mix here 1 hair), mix here 9 hair)"
        self.assertEqual((rule(good(inner)), rule.gained(good(inner)), rule.staying(good(inner))), ("here", False, (0,)))
        # the inner coat has the origin of its main part, which is no foreign one here
        outer = good(f"coat worn here ({inner})")
        self.assertEqual((rule(outer), rule.gained(outer), rule.staying(outer)), ("here", True, ()))
        other = good(f"coat worn far ({inner}, mix far 1 wool)")
        self.assertEqual((rule(other), rule.gained(other), rule.staying(other)), ("here", False, (0,)))

    def test_parts_that_stay_without_a_leaf(self):
        texts = {"none": "heading 1 is none\nrules", "two": "heading 1 is any\nheading 2 is any\nrules",
                 "ring": "heading 1 is any\nheading 2 is any\nnote 1 sends 2 if any\nnote 2 sends 1 if any\nrules first"}
        one = good("coat worn here (mix far 3 hair, mix here 4 wool)")
        for result, text in texts.items():
            rule = OriginRule(read_book(STOCK, text))
            self.assertEqual(rule.book(one), result)
            self.assertEqual((rule(one), rule.gained(one), rule.staying(one)), ("here", False, (0,)))
            far = OriginRule(read_book(STOCK, text), Ratio(3, 7))
            self.assertEqual((far(one), far.gained(one)), ("here", True))
            self.assertFalse(OriginRule(read_book(STOCK, text), Ratio(2, 5)).gained(one))

    def test_zones(self):
        one = good("coat worn here (coat worn far (mix far 3 hair), coat worn near (mix near 1 hair))")
        rows = [((), "far", (0, 1)), ((("far", "here"),), "far", (1,)), ((["near", "here"], ["far"]), "far", (0,)),
                ((("far", "here", "near"),), "here", ()), (((), ["far", "near"], ()), "far", (0, 1)),
                (((),), "far", (0, 1)), ((("here",), ("near",), ("far",)), "far", (0, 1))]
        for zones, origin, stays in rows:
            rule = OriginRule(BOOK, zones=zones)
            self.assertEqual((rule(one), rule.staying(one)), (origin, stays))
        # a part from the zone does not stay, but the good keeps the land of its own
        self.assertEqual(OriginRule(BOOK, Ratio(1, 4), zones=[["far", "here"]])(one), "here")

    def test_as_one(self):
        rule = OriginRule(BOOK, zones=[("far", "near"), ()])
        self.assertTrue(rule.as_one("far", "near") and rule.as_one("near", "far") and rule.as_one("here", "here"))
        self.assertFalse(rule.as_one("far", "here") or rule.as_one("here", "near"))
        for row, bad in ((("x", "y"), "x"), (("far", "y"), "y"), ((None, "y"), None), (("worn", "far"), "worn")):
            self.assertEqual(caught(lambda: rule.as_one(*row)), ("Unknown", bad))

    def test_attributes_and_equality(self):
        zones = [["far"], ("near",), []]
        rule = OriginRule(BOOK, Ratio(1, 2), zones=zones)
        zones[0].append("here")
        self.assertEqual((rule.book, rule.tolerance, rule.zones), (BOOK, Ratio(1, 2), (("far",), ("near",), ())))
        zero = OriginRule(BOOK, 0)
        self.assertIsInstance(zero.tolerance, Ratio)
        self.assertEqual((zero.tolerance.top, zero.tolerance.bottom, zero.zones), (0, 1, ()))
        self.assertEqual(zero, OriginRule(BOOK, Ratio(0), zones=[]))
        self.assertEqual(rule, OriginRule(BOOK, Ratio(2, 4), zones=(("far",), ["near"], ())))
        for other in (OriginRule(BOOK, Ratio(1, 2)), OriginRule(BOOK, Ratio(1, 3), zones=rule.zones), BOOK,
                      OriginRule(BOOK.changed(rules=["last"]), Ratio(1, 2), zones=rule.zones),
                      OriginRule(BOOK, Ratio(1, 2), zones=(("near",), ("far",), ()))):
            self.assertFalse(rule == other)

    def test_errors(self):
        for bad in (1, -1, True, False, Ratio(1), Ratio(-1, 2), Ratio(3, 2), "0", None, 0.0):
            self.assertEqual(caught(lambda: OriginRule(BOOK, bad, zones=[("x",)])), ("BadRatio", bad))
            self.assertIs(type(caught(lambda: OriginRule(BOOK, bad))[1]), type(bad))
        rows = [([("far",), ("x",)], 1), (["far"], 0), ([("far", "far")], 0), ([("far",), ("here", "far"), "x"], 1),
                ([(), None], 1), ([("far", "worn")], 0), ([(1,)], 0), ([["far"], ["here"], ["near", "here"]], 2),
                ([{"far": 1}], 0), ([(("far",),)], 0), ([""], 0)]
        for zones, number in rows:
            self.assertEqual(caught(lambda: OriginRule(BOOK, zones=zones)), ("BadZone", number), zones)
        strange = read_good(wide_stock(), "mix far 1 hair")
        rule = OriginRule(BOOK)
        for call in (rule, rule.gained, rule.staying):
            self.assertEqual(caught(lambda: call(strange)), ("OtherStock", 1))

    def test_random_goods(self):
        rng = fixed_random(42)
        met = set()
        tolerances = [Ratio(0), Ratio(1, 2), Ratio(1, 3), Ratio(3, 4), Ratio(1, 10), Ratio(2, 7)]
        for _ in range(40):
            book = book_from(STOCK, rng, 3, 2, 1)
            slow = slow_of(book)
            zones = rng.choice([(), (("far", "near"),), (("here",), ("near", "far")), (("far", "here", "near"),)])
            tolerance = rng.choice(tolerances)
            rule = OriginRule(book, tolerance, zones=zones)
            for _ in range(12):
                plain = self.random_plain(rng, 3)
                one = Good(STOCK, plain)
                told = (rule(one), rule.gained(one), rule.staying(one))
                self.assertEqual(told, slow_origin(slow, tolerance, zones, plain))
                many = one * 10 ** 9
                self.assertEqual((rule(many), rule.gained(many), rule.staying(many)), told)
                met.add((told[0] == one.land, told[1], len(told[2])))
        self.assertGreater(len(met), 7)

    def random_plain(self, rng, depth):
        if depth == 0 or rng.random() < 0.2:
            pairs = [(stuff, rng.randint(1, 4)) for stuff in rng.sample(STOCK.stuffs, rng.randint(1, 2))]
            return ("mix", rng.choice(STOCK.lands), tuple(sorted(pairs)))
        parts = tuple(self.random_plain(rng, depth - 1) for _ in range(rng.randint(1, 3)))
        return ("coat", rng.choice(STOCK.states), rng.choice(STOCK.lands), parts)


if __name__ == "__main__":
    unittest.main()
