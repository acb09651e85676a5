"""Promises [1] and [7]: terms and when they are true."""

import unittest

from fallsunder.errors import BadTerm, BareFalls, Unknown
from fallsunder.goods import Good
from fallsunder.terms import Term
from tests.samples import fixed_random, goods_of, holds, random_term, small_stock, wide_stock

STOCK = wide_stock()
MIX = ("mix", "far", (("hair", 1), ("wool", 3)))
HORN = ("mix", "far", (("horn", 5),))
BUTTON = ("button", "whole", "here", (HORN,))
COAT = ("coat", "worn", "far", (MIX, BUTTON))


def keeps(plain_term, plain_good):
    return Term(plain_term)(Good(STOCK, plain_good))


class TermTest(unittest.TestCase):
    def bad(self, place, plain):
        with self.subTest(plain=plain), self.assertRaises(BadTerm) as caught:
            Term(plain)
        self.assertEqual(caught.exception.place, place)

    def test_each_kind(self):
        yes = [(("any",), COAT), (("any",), MIX), (("mix",), MIX), (("form", "coat"), COAT), (("state", "worn"), COAT),
               (("over", "horn", 0, 1), COAT), (("over", "wool", 2, 3), MIX), (("from", "wool", 3, 4), MIX),
               (("from", "horn", 1, 1), COAT), (("from", "wool", 0, 1), COAT), (("parts", 2), COAT),
               (("some", ("mix",)), COAT), (("each", ("none",)), MIX), (("each", ("any",)), COAT),
               (("main", ("form", "button")), COAT), (("not", ("none",)), MIX),
               (("and", ("any",), ("mix",)), MIX), (("or", ("none",), ("mix",)), MIX)]
        no = [(("none",), COAT), (("none",), MIX), (("mix",), COAT), (("form", "coat"), MIX),
              (("form", "coat"), BUTTON), (("state", "worn"), BUTTON), (("state", "worn"), MIX),
              (("over", "wool", 3, 4), MIX), (("over", "horn", 1, 1), COAT), (("from", "wool", 4, 5), MIX),
              (("over", "wool", 0, 1), COAT), (("parts", 3), COAT), (("parts", 1), MIX), (("some", ("any",)), MIX),
              (("some", ("form", "coat")), COAT), (("each", ("mix",)), COAT), (("main", ("any",)), MIX),
              (("main", ("mix",)), COAT), (("not", ("any",)), MIX), (("and", ("any",), ("none",)), MIX),
              (("or", ("none",), ("none",)), MIX)]
        for term, plain in yes:
            self.assertIs(keeps(term, plain), True, term)
        for term, plain in no:
            self.assertIs(keeps(term, plain), False, term)

    def test_random_terms_on_all_small_goods(self):
        rng = fixed_random(1)
        stock = small_stock()
        goods = goods_of(stock, 4)
        for _ in range(60):
            plain = random_term(stock, rng, 4)
            term = Term(plain)
            for good in rng.sample(goods, 60):
                self.assertEqual(term(good), holds(plain, good.plain), (plain, good.plain))

    def test_bad_terms(self):
        for plain in (None, (), "any", ["any"], ("any", 1), ("all",), ("mix", "far"), ("form",), ("form", "Coat"),
                      ("form", "mix"), ("form", 1), ("state", "a", "b"), ("over", "wool", 1), ("over", "wool", 2, 4),
                      ("over", "wool", 2, 1), ("over", "wool", -1, 2), ("over", "wool", 1, 21), ("over", "wool", 0, 0),
                      ("over", "wool", 0, 2), ("over", "wool", True, 1), ("over", "wool", 1, True), ("from", "1", 1, 2),
                      ("from", "wool", 1, "2"), ("parts", 0), ("parts", 5), ("parts", True), ("parts", "1"), ("some",),
                      ("some", ("any",), ("any",)), ("not",), ("and", ("any",)), ("or", ("any",), ("any",), ("any",)),
                      ("falls",), ("falls", ""), ("falls", "abcdefghi"), ("falls", "main"), ("falls", "A"),
                      ("falls", 1), (["any"],), (1,), Term(("any",))):
            self.bad((), plain)
        for plain in (("falls", "12345678"), ("falls", "a1"), ("over", "wool", 0, 1), ("from", "wool", 1, 1),
                      ("over", "wool", 19, 20), ("parts", 4), ("form", "abcdefghijkl")):
            self.assertEqual(Term(plain).plain, plain)

    def test_first_bad_place(self):
        self.bad((0,), ("and", ("x",), ("y",)))
        self.bad((1,), ("and", ("any",), ["any"]))
        self.bad((0, 0), ("or", ("not", ("x",)), ("y",)))
        self.bad((1, 0, 0), ("or", ("not", ("any",)), ("some", ("main", Term(("any",))))))
        self.bad((), ("and", ("x",), ("y",), ("z",)))

    def test_names_and_falls(self):
        term = Term(("or", ("and", ("form", "b"), ("over", "a", 1, 2)),
                     ("some", ("or", ("falls", "h2"), ("and", ("state", "b"), ("or", ("falls", "h1"), ("falls", "h2")))))))
        self.assertEqual((term.names, term.falls, term.size, term.look), (("b", "a"), ("h2", "h1"), 12, 1))
        term = Term(("and", ("some", ("main", ("mix",))), ("each", ("not", ("some", ("main", ("parts", 1)))))))
        self.assertEqual((term.names, term.falls, term.size, term.look), ((), (), 9, 3))
        self.assertEqual(Term(("any",)).look, 0)

    def test_signs(self):
        a, b = Term(("any",)), Term(("mix",))
        self.assertEqual((~a).plain, ("not", ("any",)))
        self.assertEqual((a & b).plain, ("and", ("any",), ("mix",)))
        self.assertEqual((a | b).plain, ("or", ("any",), ("mix",)))
        self.assertTrue(a == Term(("any",)) and a != b and not a == ("any",) and not a == None)  # noqa: E711

    def test_calls_that_fail(self):
        good = Good(STOCK, COAT)
        rows = [(("and", ("form", "x"), ("some", ("falls", "h"))), BareFalls, "heading", "h"),
                (("or", ("falls", "k"), ("falls", "h")), BareFalls, "heading", "k"),
                (("and", ("mix",), ("or", ("form", "x"), ("state", "y"))), Unknown, "name", "x"),
                (("form", "wool"), Unknown, "name", "wool"), (("state", "coat"), Unknown, "name", "coat"),
                (("over", "worn", 1, 2), Unknown, "name", "worn"), (("form", "far"), Unknown, "name", "far"),
                (("or", ("any",), ("from", "zinc", 1, 2)), Unknown, "name", "zinc")]
        for plain, kind, attribute, told in rows:
            with self.subTest(plain=plain), self.assertRaises(kind) as caught:
                Term(plain)(good)
            self.assertEqual(getattr(caught.exception, attribute), told)

    def test_multiples_keep_the_same_terms(self):
        rng = fixed_random(2)
        for _ in range(40):
            term = Term(random_term(STOCK, rng, 3))
            self.assertEqual(term(Good(STOCK, COAT)), term(Good(STOCK, COAT) * 10 ** 40))

    def test_deep_terms_and_goods(self):
        term = ("mix",)
        for _ in range(30):
            term = ("some", ("not", term))
        plain = MIX
        for _ in range(400):
            plain = ("coat", "worn", "far", (plain,))
        self.assertIs(Term(term)(Good(STOCK, plain)), False)
        self.assertIs(Term(("some", term))(Good(STOCK, MIX)), False)
        self.assertEqual(Term(term).look, 30)


if __name__ == "__main__":
    unittest.main()
