"""Promises [1] and [10]: pushed terms and looks."""

import unittest

from fallsunder.goods import Good
from fallsunder.pushing import is_pushed, pushed
from fallsunder.terms import Term
from fallsunder.termtext import read_term, write_term
from tests.samples import all_goods, fixed_random, random_term, small_stock

STOCK = small_stock()


class PushingTest(unittest.TestCase):
    def test_each_rule(self):
        rows = [("not any", "none"), ("not none", "any"), ("not not mix", "mix"), ("not not not mix", "not mix"),
                ("not (mix and parts 1)", "not mix or not parts 1"), ("not (mix or parts 1)", "not mix and not parts 1"),
                ("not some mix", "each not mix"), ("not each mix", "some not mix"), ("not main any", "mix or main none"),
                ("not main parts 2", "mix or main not parts 2"), ("not over 1/2 a", "not over 1/2 a"),
                ("not form a", "not form a"), ("not state a", "not state a"), ("not from 0/1 a", "not from 0/1 a"),
                ("not falls h", "not falls h"), ("any", "any"), ("some each main (mix and any)",) * 2,
                ("not some (mix and not main (any or falls h))", "each (not mix or main (any or falls h))"),
                ("not main not mix", "mix or main mix"), ("not (mix and not (any and mix))", "not mix or any and mix"),
                ("some not each not (mix or main not some any)", "some some (mix or main each none)"),
                ("not not (mix and not any)", "mix and none"),
                ("not main main mix", "mix or main (mix or main not mix)")]
        for text, told in rows:
            with self.subTest(text=text):
                term = read_term(text)
                self.assertEqual(write_term(pushed(term)), told)
                self.assertEqual(write_term(term), text)

    def test_is_pushed(self):
        for text in ("any", "not mix", "not falls h", "some not parts 1 and not over 1/2 a", "not from 1/2 a or none",
                     "each main not state a", "not form a"):
            self.assertTrue(is_pushed(read_term(text)), text)
            self.assertEqual(pushed(read_term(text)), read_term(text))
        for text in ("not any", "not none", "some not not mix", "any and not (mix and any)", "not (mix or any)",
                     "main not some mix", "not each mix", "each (mix or not main any)"):
            self.assertFalse(is_pushed(read_term(text)), text)

    def test_random_terms_stay_what_they_are(self):
        rng = fixed_random(11)
        goods = [Good(STOCK, plain) for plain in rng.sample(all_goods(STOCK, 4), 60)]
        for _ in range(150):
            term = Term(random_term(STOCK, rng, 5))
            new = pushed(term)
            self.assertTrue(is_pushed(new))
            self.assertEqual(new.look, term.look)
            self.assertEqual(pushed(new), new)
            for good in goods[::6]:
                self.assertEqual(new(good), term(good))

    def test_looks(self):
        for text, look in (("any", 0), ("not mix and any", 0), ("some any", 1), ("some any and each main any", 2),
                           ("not some not each (any or main falls h)", 3)):
            self.assertEqual(read_term(text).look, look)


if __name__ == "__main__":
    unittest.main()
