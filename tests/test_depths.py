"""Promise [37]: goods that are alike to a depth, and how deep one must look."""

import unittest

from fallsunder.booktext import read_book
from fallsunder.depths import alike_to, looking_depth, unlike_at
from fallsunder.goodtext import read_good
from tests.samples import book_from, caught, fixed_random, goods_of, is_sound, small_stock, twin_stock, wide_stock
from tests.test_opengoods import proportions

STOCK, WIDE = small_stock(), wide_stock()


def good(text):
    return read_good(WIDE, text)


def sight(plain, depth):
    """What one sees of a plain good to a depth: told by the words of the document."""
    if depth == 0:
        return ()
    if plain[0] == "mix":
        return ("mix", proportions(plain)[2])
    weights = [sum_of(part) for part in plain[3]]
    return (plain[0], plain[1], weights.index(max(weights)), tuple(sight(part, depth - 1) for part in plain[3]))


def sum_of(plain):
    return sum(g for _, g in plain[2]) if plain[0] == "mix" else sum(sum_of(part) for part in plain[3])


class AlikeTest(unittest.TestCase):
    def test_depths(self):
        one = good("coat worn far (mix far 2 hair, button whole here (mix here 1 horn))")
        other = good("coat worn here (mix here 4 hair, button whole far (mix here 3 wool))")
        self.assertEqual([alike_to(one, other, k) for k in range(6)], [True, True, True, False, False, False])
        self.assertTrue(all(alike_to(one, one * 3, k) for k in (0, 1, 2, 3, 9, 10 ** 40)))
        third = good("coat worn far (mix far 1 hair, button whole here (mix here 1 horn))")
        self.assertEqual([alike_to(one, third, k) for k in (0, 1, 2, 3, 4, 100)], [True] * 6)
        self.assertFalse(alike_to(one, good("coat worn far (mix far 1 hair, button whole here (mix here 2 horn))"), 1))
        rows = [("mix far 1 hair", "coat worn far (mix far 1 hair)"), ("mix far 1 hair", "mix far 1 hair 1 wool"),
                ("mix far 1 hair 2 wool", "mix far 2 hair 3 wool"), ("mix far 1 hair", "mix far 1 wool"),
                ("coat worn far (mix far 1 hair)", "coat whole far (mix far 1 hair)"),
                ("coat worn far (mix far 1 hair)", "button worn far (mix far 1 hair)"),
                ("coat worn far (mix far 1 hair)", "coat worn far (mix far 1 hair, mix far 1 hair)"),
                ("coat worn far (mix far 1 hair, mix far 1 hair)", "coat worn far (mix far 1 hair, mix far 2 hair)")]
        for first, second in rows:
            self.assertTrue(alike_to(good(first), good(second), 0))
            self.assertFalse(alike_to(good(first), good(second), 1))
            self.assertFalse(alike_to(good(second), good(first), 7))
        self.assertTrue(alike_to(good("mix far 1 hair 2 wool"), good("mix here 3 hair 6 wool"), 5))
        self.assertTrue(alike_to(good("coat worn far (mix far 1 hair)"), good("coat worn far (mix far 1 wool)"), 1))

    def test_errors(self):
        here, there = good("mix far 1 hair"), read_good(STOCK, "mix far 1 hair")
        book = read_book(WIDE, "heading 1 is any\nrules")
        self.assertEqual(caught(lambda: alike_to(here, there, -1)), ("OtherStock", 1))
        for depth in (True, False, -1, "1", None, 1.0):
            for call in (lambda: alike_to(here, here, depth), lambda: unlike_at(book, depth)):
                found = caught(call)
                self.assertEqual((found, type(found[1])), (("BadNumber", depth), type(depth)))


class LookingTest(unittest.TestCase):
    def told(self, text, stock=WIDE):
        book = read_book(stock, text)
        depth = looking_depth(book)
        for k in range(7):
            pair = unlike_at(book, k)
            self.assertEqual(pair is None, depth is not None and depth <= k)
            if pair is not None:
                self.look_at(book, pair, k)
        return depth

    def look_at(self, book, pair, depth):
        self.assertTrue(alike_to(*pair, depth))
        self.assertEqual(sight(pair[0].plain, depth), sight(pair[1].plain, depth))
        self.assertNotEqual(book(pair[0]), book(pair[1]))
        self.assertTrue(is_sound(pair[0]) and is_sound(pair[1]))

    def test_looking_depths(self):
        ends = "\nheading 9 is any\nrules first"
        self.assertEqual(self.told("heading 1 is any\nrules"), 0)
        self.assertEqual(self.told("heading 1 is any" + ends), 0)
        self.assertEqual(self.told("heading 1 is form ghost" + ends), 0)
        self.assertEqual(self.told("heading 1 is mix" + ends), 1)
        self.assertEqual(self.told("heading 1 is state worn or parts 2" + ends), 1)
        self.assertEqual(self.told("heading 1 is mix and over 1/2 wool" + ends), 1)
        self.assertEqual(self.told("heading 1 is main state worn" + ends), 2)
        self.assertEqual(self.told("heading 1 is some some each form button" + ends), 4)
        self.assertEqual(self.told("heading 1 is form button and over 1/2 wool" + ends), 2)
        self.assertEqual(self.told("heading 1 is some some some some mix" + ends), 5)
        self.assertIsNone(self.told("heading 1 is over 1/2 wool" + ends))
        self.assertIsNone(self.told("heading 1 is state worn\nheading 2 is any\nnote 1 takes some falls 1\nrules first"))
        self.assertEqual(self.told("heading 1 is state worn\nheading 2 is any\nnote 1 takes some falls 1\n"
                                   "note 1 shuts some some any\nrules first"), 2)
        self.assertIsNone(self.told("heading 1 is mix or form coat\nheading 2 is any\nrules main first"))
        self.assertEqual(self.told("heading 1 is over 1/2 wool" + ends, STOCK), 3)

    def test_seven_deep(self):
        book = read_book(WIDE, "heading 1 is " + "some " * 8 + "mix\nheading 2 is any\nrules first")
        self.assertEqual(looking_depth(book), 9)
        self.look_at(book, unlike_at(book, 6), 6)

    def test_random_books(self):
        rng = fixed_random(37)
        told = set()
        for stock, nodes in ((STOCK, 4), (WIDE, 3), (twin_stock(), 4)):
            goods = goods_of(stock, nodes, 2, stock.lands[:1])
            for _ in range(20):
                book = book_from(stock, rng, 4, 3)
                some = rng.sample(goods, min(200, len(goods)))
                depth = looking_depth(book)
                told.add(depth)
                for k in range(4):
                    pair = unlike_at(book, k)
                    self.assertEqual(pair is None, depth is not None and depth <= k)
                    if pair is not None:
                        self.look_at(book, pair, k)
                    else:
                        seen = {}
                        for one in some:
                            self.assertEqual(seen.setdefault(sight(one.plain, k), book(one)), book(one))
                for one, other in zip(some, some[1:]):
                    for k in range(4):
                        self.assertEqual(alike_to(one, other, k), sight(one.plain, k) == sight(other.plain, k))
        self.assertTrue({0, 1, 2, 3, None} <= told, told)


if __name__ == "__main__":
    unittest.main()
